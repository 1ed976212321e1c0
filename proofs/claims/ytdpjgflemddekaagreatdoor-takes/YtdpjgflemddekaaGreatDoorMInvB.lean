/- What is always so stays so: behind a copy, a move, a new object. Nothing of the program's text. -/
import Derived.Test.YtdpjgflemddekaaGreatDoorMRelA
namespace Go.Proofs.YtdpjgflemddekaaGreatDoor
structure b95 (K:a_)(D:List (Int×Int))(N':List pp)(T':List ej)(nodes':Int->Option Int)(thr':Int->Option oz)(qs':Int->Option (List dx×List dx))(c:KCap):Prop where
 nodes:∀b,(nodes' b).getD 0=bf N' b
 thr:∀b,thr' b=(T'.find? (af b)).map ej.thd
 nold:∀b y,K.nodes b=some y->nodes' b=some y
 nnew:∀b y,nodes' b=some y->K.nodes b=some y\/(0<=b/\b<1024/\y<=16/\∃n r,c=.node b n r)
 told:∀b y,K.thr b=some y->thr' b=some y
 tnew:∀b y,thr' b=some y->K.thr b=some y\/∃n r,c=.task b n r
 qold:∀b y,K.qs b=some y->qs' b=some y
 qnew:∀b y,qs' b=some y->K.qs b=some y\/∃n r g,c=.endpoint b n r g
 cn:∀b n r,c=.node b n r->3<=n/\n<=6/\nodes' b=some (pw n.toNat / 4)
 ct:∀b n r,c=.task b n r->∃t,thr' b=some t
 ce:∀b n r g,c=.endpoint b n r g->∃q,qs' b=some q
 dm:∀d∈D,nodes' d.1=none
 nd:(N'.map pp.base).Nodup
 td:(T'.map ej.base).Nodup
 nb:∀l∈N',0<=l.base/\l.base<1024/\0<=l.bits/\l.bits<=6
 tb:∀t∈T',0<=t.base/\t.base<1024/\t.base % 16=0
 rt:0<=c.rights/\c.rights<=7
 da:∀d∈D,c.isU=false->c.base+pw c.bits.toNat<=d.1\/d.1+8<=c.base
theorem bq.layG {R:dq}{K:a_}{D:List (Int×Int)}(h:bq R K D){p:Nat}(hp:p<R.L.length)(x:aw)(c d:KCap)(hc:c.told=x.told)(hx:K.held x.slot=none)(hi:0<=x.slot.index/\x.slot.index<bt K x.slot.node)
 (hcap:0<=c.base/\0<=c.bits/\c.bits<=10/\c.base+pw c.bits.toNat<=1024/\0<=c.mark/\c.mark<=pw c.bits.toNat)
 (hd:K.held R.L[p].slot=some d) (hw:rz d c) (ha:∀s e,s≠R.L[p].slot->K.held s=some e->ah9 c e\/jz c e\/(e.isU=true/\Up K.st s R.L[p].slot)) (hpd:jz d c\/d.isU=true)
 {N':List pp} {T':List ej} {nodes':Int->Option Int} {thr':Int->Option oz} {qs':Int->Option (List dx×List dx)} (ob:b95 K D N' T' nodes' thr' qs' c) :
 bq {L:=ns R.L p R.L[p].up x,N:=N',T:=T'} (({K with nodes:=nodes',thr:=thr',qs:=qs'}:a_).lay x.slot c R.L[p].slot) D:=by
 have hne:∀e∈R.L,e.slot≠x.slot:=fun e he e1=>by
  obtain ⟨c',h1,_⟩:=h.rel.cap e he;rw [e1,hx] at h1;cases h1
 have htn:x.slot≠nowhere:=ml hi.1;have htp:x.slot≠R.L[p].slot:=fun e=>hne _ (List.getElem_mem hp) e.symm
 have hrel:=h.rel.lay hp x hne htn c hc;have hold:∀s c',upd K.held x.slot (some c) s=some c'->(s=x.slot/\c'=c)\/(s≠x.slot/\K.held s=some c'):=by
  intro s c' h1;by_cases e:s=x.slot
  ·rw [e,ai] at h1;exact .inl ⟨e,(Option.some.inj h1).symm⟩
  ·rw [ae _ _ e] at h1;exact .inr ⟨e,h1⟩
 have hkeep:∀s c',K.held s=some c'->upd K.held x.slot (some c) s=some c':=by
  intro s c' h1;have e:s≠x.slot:=fun e=>by rw [e,hx] at h1;cases h1
  rw [ae _ _ e];exact h1
 have hstx:K.st x.slot=none:=h.rel.treeOk.empty _ hx hi.1;have hI:∀b,bt K b<=0\/bt (({K with nodes:=nodes',thr:=thr',qs:=qs'}:a_).lay x.slot c R.L[p].slot) b=bt K b:=by
  intro b;cases hb:K.nodes b with
  | none=>left;unfold bt;rw [hb];simp
  | some y=>right;unfold bt;rw [hb];show (nodes' b).getD 0=_;rw [ob.nold b y hb]
 refine ⟨⟨hrel.cap,hrel.emp,hrel.tree,ob.nodes,ob.thr⟩,?_,?_,?_,h.dn,?_,?_,?_,?_,?_,?_,?_,ob.nd,ob.td,ob.nb,ob.tb,?_,?_⟩
 ·refine h.geo.lay htn htp hx ?_ ?_ hd hw ha hpd
  ·intro s y hy;have hs:s≠x.slot:=fun e=>by rw [e,hstx] at hy;cases hy
   refine ⟨fun hsn e=>?_,hs⟩
   rcases (h.stand hsn hy).2 with e1 | ⟨⟨d',e1⟩,_⟩
   ·exact htn (e.symm.trans e1)
   ·rw [e,hx] at e1;cases e1
  ·obtain ⟨y,_,e1,_⟩:=h.rel.treeOk.full _ _ hd;exact ⟨y,e1⟩
 ·intro s c' hs;rcases hold s c' hs with ⟨e,_⟩ | ⟨_,h1⟩
  ·rw [e];refine ⟨hi.1,.inl ?_⟩;rcases hI x.slot.node with h2 | h2
   ·omega
   ·rw [h2];exact hi.2
  ·obtain ⟨g1,g2⟩:=h.inN s c' h1;refine ⟨g1,?_⟩;rcases g2 with g2 | g2
   ·rcases hI s.node with h2 | h2
    ·omega
    ·left;rw [h2];exact g2
   ·exact .inr g2
 ·intro d' hd';obtain ⟨g1,g2,g3,g4,_⟩:=h.dm d' hd';exact ⟨g1,g2,g3,g4,ob.dm d' hd'⟩
 ·intro b y hy;rcases ob.nnew b y hy with h1 | ⟨h1,h2,h3,n,r,h4⟩
  ·obtain ⟨g1,g2,g3,s,n,r,g4⟩:=h.nod b y h1;exact ⟨g1,g2,g3,s,n,r,hkeep _ _ g4⟩
  ·exact ⟨h1,h2,h3,x.slot,n,r,by rw [<- h4];exact ai _ _ _⟩
 ·intro s c' hs;rcases hold s c' hs with ⟨_,rfl⟩ | ⟨_,h1⟩
  ·exact hcap
  ·exact h.cap s c' h1
 ·intro s b n r hs;rcases hold s _ hs with ⟨_,e⟩ | ⟨_,h1⟩
  ·exact ob.cn b n r e.symm
  ·obtain ⟨g1,g2,g3⟩:=h.hno s b n r h1;exact ⟨g1,g2,ob.nold b _ g3⟩
 ·intro b y hy;rcases ob.tnew b y hy with h1 | ⟨n,r,h4⟩
  ·obtain ⟨s,n,r,g4⟩:=h.thd b y h1;exact ⟨s,n,r,hkeep _ _ g4⟩
  ·exact ⟨x.slot,n,r,by rw [<- h4];exact ai _ _ _⟩
 ·intro s b n r hs;rcases hold s _ hs with ⟨_,e⟩ | ⟨_,h1⟩
  ·exact ob.ct b n r e.symm
  ·obtain ⟨t,g⟩:=h.hth s b n r h1;exact ⟨t,ob.told b _ g⟩
 ·intro b y hy;rcases ob.qnew b y hy with h1 | ⟨n,r,g,h4⟩
  ·obtain ⟨s,n,r,g,g4⟩:=h.que b y h1;exact ⟨s,n,r,g,hkeep _ _ g4⟩
  ·exact ⟨x.slot,n,r,g,by rw [<- h4];exact ai _ _ _⟩
 ·intro s b n r g hs;rcases hold s _ hs with ⟨_,e⟩ | ⟨_,h1⟩
  ·exact ob.ce b n r g e.symm
  ·obtain ⟨q,hq⟩:=h.hen s b n r g h1;exact ⟨q,ob.qold b _ hq⟩
 ·intro s c' hs;rcases hold s _ hs with ⟨_,e⟩ | ⟨_,h1⟩
  ·rw [e];exact ob.rt
  ·exact h.rt s c' h1
 ·intro d' hd' s c' hs hu;rcases hold s _ hs with ⟨_,e⟩ | ⟨_,h1⟩
  ·rw [e] at hu ⊢;exact ob.da d' hd' hu
  ·exact h.dap d' hd' s c' h1 hu
theorem bq.copied {R:dq}{K:a_}{D:List (Int×Int)}(h:bq R K D){p:Nat}(hp:p<R.L.length)(x:aw)(c d:KCap)(hc:c.told=x.told)(hx:K.held x.slot=none)(hi:0<=x.slot.index/\x.slot.index<bt K x.slot.node)
 (hcap:0<=c.base/\0<=c.bits/\c.bits<=10/\c.base+pw c.bits.toNat<=1024/\0<=c.mark/\c.mark<=pw c.bits.toNat)
 (hd:K.held R.L[p].slot=some d) (hs:jz d c) (hbg:d.badge=0\/c.badge=d.badge) (hrt:0<=c.rights/\c.rights<=7) :
 bq {R with L:=ns R.L p R.L[p].up x} (K.lay x.slot c R.L[p].slot) D:=by
 refine h.layG (N':=R.N) (T':=R.T) (nodes':=K.nodes) (thr':=K.thr) (qs':=K.qs) hp x c d hc hx hi hcap hd ((al9 hs.1).2 ⟨hs,hbg⟩) ?_ (.inl hs) ?_
 ·intro s e hne he;rcases h.geo.apart s _ e d hne he hd with g | g | g | ⟨g1,_⟩
  ·exact .inl (g.same hs).symm
  ·exact .inr (.inl (g.trans hs).symm)
  ·exact .inr (.inr g)
  ·rw [hs.1] at g1;cases g1
 ·refine ⟨h.rel.nodes,h.rel.thr,fun _ _=>id,fun _ _=>.inl,fun _ _=>id,fun _ _=>.inl,fun _ _=>id,fun _ _=>.inl,?_,?_,?_,fun d' hd'=>(h.dm d' hd').2.2.2.2,h.nd,h.td,h.nb,h.tb,hrt,fun d' hd' _=>by have:=h.dap d' hd' _ _ hd hs.1;rw [hs.2.2.1,hs.2.2.2] at this;exact this⟩
  ·intro b n r e;subst e;obtain ⟨_,q1,q2,q3⟩:=hs;cases d<;>simp only [KCap.ty,KCap.base,KCap.bits] at q1 q2 q3<;>first | omega | skip
   subst q2;subst q3;exact h.hno _ _ _ _ hd
  ·intro b n r e;subst e;obtain ⟨_,q1,q2,q3⟩:=hs;cases d<;>simp only [KCap.ty,KCap.base,KCap.bits] at q1 q2 q3<;>first | omega | skip
   subst q2;subst q3;exact h.hth _ _ _ _ hd
  ·intro b n r g e;subst e;obtain ⟨_,q1,q2,q3⟩:=hs;cases d<;>simp only [KCap.ty,KCap.base,KCap.bits] at q1 q2 q3<;>first | omega | skip
   subst q2;subst q3;exact h.hen _ _ _ _ _ hd
theorem ii.movedP {L:List aw}{st:Slot->Option nw}{F:Fo}(h:ii L st F){a b:Slot}(hmem:a∈F.slots)(hb:b∉F.slots)(hb2:b≠nowhere):
 (∀t x,t≠nowhere->st t=some x->∃y,rc st a b (if t=a then b else t)=some y/\y.parent=(if x.parent=a then b else x.parent))/\
 (∀t y,t≠nowhere->rc st a b t=some y->t≠a/\∃t0 x,t=(if t0=a then b else t0)/\t0≠nowhere/\t0≠b/\st t0=some x)/\(∀t x,t≠nowhere->st t=some x->x.parent≠b):=by
 obtain ⟨x,hx,x1,x2,x3,x4,x5⟩:=h.stands.fact h.nodup a hmem;obtain ⟨rt,hr1,hr2⟩:=h.roots;have hab:a≠b:=fun e=>hb (e▸hmem)
 have han:a≠nowhere:=fun e=>h.top (e▸hmem)
 have hpa:x.parent≠a:=by
  rcases x5 with ⟨e,_⟩ | ⟨_,y,e2,e3,_⟩
  ·rw [e];exact Ne.symm han
  ·intro e;rw [e,hx] at e2;cases e2;exact x1 e3
 have hpb:x.parent≠b:=by
  rcases x5 with ⟨e,_⟩ | ⟨e,_⟩
  ·rw [e];exact Ne.symm hb2
  ·intro e2;exact hb (e2▸e)
 have hbk:b∉x.kids:=fun e=>hb (x4 b e).1
 obtain ⟨y,hy,hy2⟩:∃y,st x.parent=some y/\a∈y.kids:=by
  rcases x5 with ⟨e,e2⟩ | ⟨_,y,e2,e3,_⟩
  ·exact ⟨rt,by rw [e];exact hr1,by rw [hr2];exact e2⟩
  ·exact ⟨y,e2,e3⟩
 have hs1p:(upd (upd st a none) b (some x)) x.parent=some y:=by rw [ae _ _ hpb,ae _ _ hpa];exact hy
 have hmv:rc st a b=f_ (upd (upd (upd st a none) b (some x)) x.parent (some ⟨y.parent,y.kids.map fun k=>if k=a then b else k⟩)) x.kids b:=by
  unfold rc;rw [hx];simp only [hs1p]
 have hkp:∀s,s≠nowhere->∀z,st s=some z->(z.parent=a ↔ s∈x.kids):=by
  intro s h2 z hz;constructor
  ·intro e;rcases h.only s z hz with e0 | e0
   ·obtain ⟨z',e1,_,_,_,_,e5⟩:=h.stands.fact h.nodup s e0;rw [hz] at e1;cases e1
    rcases e5 with ⟨e6,_⟩ | ⟨_,y2,e6,e7,_⟩
    ·exact absurd (e▸e6) han
    ·rw [e,hx] at e6;cases e6;exact e7
   ·exact absurd e0 h2
  ·intro e;obtain ⟨_,z2,e6,e7⟩:=x4 s e;rw [hz] at e6;cases e6
   exact e7
 refine ⟨?_,?_,?_⟩
 ·intro t z htn hz;by_cases e:t=a
  ·subst e;rw [hx] at hz;cases hz
   rw [if_pos rfl,if_neg hpa];refine ⟨x,?_,rfl⟩;rw [hmv];unfold f_;rw [if_neg hbk,ae _ _ (Ne.symm hpb),ai]
  ·rw [if_neg e];have htb:t≠b:=fun e1=>by
    rcases h.only t z hz with e0 | e0
    ·exact hb (e1▸e0)
    ·exact htn e0
   rw [hmv];unfold f_;by_cases h3:t=x.parent
   ·subst h3;rw [ai];rw [hy] at hz;cases hz
    by_cases h4:x.parent∈x.kids
    ·simp [h4,(hkp _ htn _ hy).2 h4]
    ·simp [h4];exact fun e2=>absurd ((hkp _ htn _ hy).1 e2) h4
   ·rw [ae _ _ h3,ae _ _ htb,ae _ _ e,hz];by_cases h4:t∈x.kids
    ·simp [h4,(hkp _ htn _ hz).2 h4]
    ·simp [h4];exact fun e2=>absurd ((hkp _ htn _ hz).1 e2) h4
 ·intro t z htn hz;have hta:t≠a:=fun e=>by
   rw [e,hmv] at hz;unfold f_ at hz;rw [if_neg x1,ae _ _ (Ne.symm hpa),ae _ _ hab,ai] at hz;cases hz
  refine ⟨hta,?_⟩;by_cases htb:t=b
  ·exact ⟨a,x,by rw [if_pos rfl];exact htb,han,hab,hx⟩
  ·have h3:∃z',st t=some z':=by
    rw [hmv] at hz;unfold f_ at hz;by_cases h4:t=x.parent
    ·exact ⟨y,by rw [h4];exact hy⟩
    ·rw [ae _ _ h4,ae _ _ htb,ae _ _ hta] at hz;cases hst:st t with
     | none=>rw [hst] at hz;split at hz<;>simp at hz
     | some z'=>exact ⟨z',rfl⟩
   obtain ⟨z',h3⟩:=h3;exact ⟨t,z',by rw [if_neg hta],htn,htb,h3⟩
 ·intro t z htn hz e;rcases h.only t z hz with e0 | e0
  ·obtain ⟨z',e1,_,_,_,_,e5⟩:=h.stands.fact h.nodup t e0;rw [hz] at e1;cases e1
   rcases e5 with ⟨e6,_⟩ | ⟨e6,_⟩
   ·exact hb2 (e▸e6)
   ·exact hb (e▸e6)
  ·exact htn e0
theorem bq.move {R:dq}{K:a_}{D:List (Int×Int)}(h:bq R K D){p:Nat}(hp:p<R.L.length)(c:KCap)(hc:K.held R.L[p].slot=some c)(n i:Int)(hx:K.held ⟨n,i⟩=none)(hi:0<=i/\i<bt K n):
 bq {R with L:=R.L.set p {R.L[p] with node:=n,index:=i}} (K.move R.L[p].slot ⟨n,i⟩ c) D:=by
 obtain ⟨F,hF⟩:=h.rel.tree;have hmem:R.L[p].slot∈F.slots:=(mz h.rel hF).2 ⟨c,hc⟩;have hbn:(⟨n,i⟩:Slot)∉F.slots:=fun e=>by
  obtain ⟨c',h1⟩:=(mz h.rel hF).1 e;rw [hx] at h1;cases h1
 have hb2:(⟨n,i⟩:Slot)≠nowhere:=ml hi.1;have hab:R.L[p].slot≠⟨n,i⟩:=fun e=>hbn (e▸hmem)
 have hh:(K.move R.L[p].slot ⟨n,i⟩ c).held=upd (upd K.held R.L[p].slot none) ⟨n,i⟩ (some c):=rfl;-- what a slot holds behind it,it or the old slot held
 have hold:∀s c',(K.move R.L[p].slot ⟨n,i⟩ c).held s=some c'->(s=⟨n,i⟩/\K.held R.L[p].slot=some c')\/(s≠⟨n,i⟩/\s≠R.L[p].slot/\K.held s=some c'):=by
  intro s c' hs;rw [hh] at hs;by_cases e:s=⟨n,i⟩
  ·subst e;rw [ai] at hs;exact .inl ⟨rfl,hc.trans hs⟩
  ·rw [ae _ _ e] at hs;by_cases e2:s=R.L[p].slot
   ·rw [e2,ai] at hs;cases hs
   ·rw [ae _ _ e2] at hs;exact .inr ⟨e,e2,hs⟩
 have hnd:=hF.nd;have hmemset:∀e∈R.L.set p {R.L[p] with node:=n,index:=i},(e={R.L[p] with node:=n,index:=i})\/(e∈R.L/\e.slot≠R.L[p].slot):=by
  intro e he;obtain ⟨j,hj,rfl⟩:=List.getElem_of_mem he;have hj':j<R.L.length:=by simpa using hj
  rw [List.getElem_set];by_cases hpj:p=j
  ·rw [if_pos hpj];exact .inl rfl
  ·rw [if_neg hpj];refine .inr ⟨List.getElem_mem hj',fun e1=>hpj ?_⟩
   have e2:(R.L.map aw.slot)[j]'(by simpa using hj')=(R.L.map aw.slot)[p]'(by simpa using hp):=by simpa using e1
   exact ((List.getElem_inj hnd).1 e2).symm
 obtain ⟨ct,hct1,hct2⟩:=h.rel.cap _ (List.getElem_mem hp);rw [hc] at hct1;cases hct1
 obtain ⟨hk1,hk2,hk3⟩:=hF.movedP hmem hbn hb2;have hfw:∀s c',K.held s=some c'->∃s',(K.move R.L[p].slot ⟨n,i⟩ c).held s'=some c':=by
  intro s c' hs;by_cases e:s=R.L[p].slot
  ·rw [e,hc] at hs;cases hs
   exact ⟨⟨n,i⟩,by rw [hh];exact ai _ _ _⟩
  ·refine ⟨s,?_⟩;have h3:s≠⟨n,i⟩:=fun e3=>by rw [e3,hx] at hs;cases hs
   rw [hh,ae _ _ h3,ae _ _ e];exact hs
 have hbw:∀s c',(K.move R.L[p].slot ⟨n,i⟩ c).held s=some c'->∃s',K.held s'=some c':=by
  intro s c' hs;rcases hold s c' hs with ⟨_,h1⟩ | ⟨_,_,h1⟩
  ·exact ⟨_,h1⟩
  ·exact ⟨_,h1⟩
 refine ⟨⟨?_,?_,⟨_,hF.move hp n i hbn hb2⟩,h.rel.nodes,h.rel.thr⟩,h.geo.move hc hx hb2 hk1 hk2 hk3,?_,h.dm,h.dn,?_,?_,?_,?_,?_,?_,?_,h.nd,h.td,h.nb,h.tb,fun s c' hs=>by obtain ⟨s',h1⟩:=hbw s c' hs;exact h.rt s' c' h1,fun d' hd' s c' hs hu=>by obtain ⟨s',h1⟩:=hbw s c' hs;exact h.dap d' hd' s' c' h1 hu⟩
 ·intro e he;rcases hmemset e he with rfl | ⟨h1,h2⟩
  ·exact ⟨c,by rw [hh];exact ai _ _ _,hct2⟩
  ·obtain ⟨c',e1,e2⟩:=h.rel.cap e h1;have h3:e.slot≠⟨n,i⟩:=fun e3=>by rw [e3,hx] at e1;cases e1
   exact ⟨c',by rw [hh,ae _ _ h3,ae _ _ h2];exact e1,e2⟩
 ·intro s hs;rw [hh];have h1:s≠⟨n,i⟩:=fun e=>by
   refine hs {R.L[p] with node:=n,index:=i} ?_ e.symm;exact List.mem_set hp _
  rw [ae _ _ h1];by_cases e2:s=R.L[p].slot
  ·rw [e2,ai]
  ·rw [ae _ _ e2];refine h.rel.emp s (fun e he e1=>?_);obtain ⟨j,hj,rfl⟩:=List.getElem_of_mem he;have hpj:p≠j:=fun e3=>by subst e3;exact e2 e1.symm
   refine hs R.L[j] ?_ e1;have:(R.L.set p {R.L[p] with node:=n,index:=i})[j]'(by simpa using hj)=R.L[j]:=by rw [List.getElem_set,if_neg hpj]
   rw [<- this];exact List.getElem_mem _
 ·intro s c' hs;rcases hold s c' hs with ⟨rfl,_⟩ | ⟨_,_,h1⟩
  ·exact ⟨hi.1,.inl hi.2⟩
  ·exact h.inN s c' h1
 ·intro b y hy;obtain ⟨g1,g2,g3,s,n,r,g4⟩:=h.nod b y hy;obtain ⟨s',g5⟩:=hfw _ _ g4;exact ⟨g1,g2,g3,s',n,r,g5⟩
 ·intro s c' hs;obtain ⟨s',h1⟩:=hbw s c' hs;exact h.cap s' c' h1
 ·intro s b n r hs;obtain ⟨s',h1⟩:=hbw s _ hs;exact h.hno s' b n r h1
 ·intro b y hy;obtain ⟨s,n,r,g4⟩:=h.thd b y hy;obtain ⟨s',g5⟩:=hfw _ _ g4;exact ⟨s',n,r,g5⟩
 ·intro s b n r hs;obtain ⟨s',h1⟩:=hbw s _ hs;exact h.hth s' b n r h1
 ·intro b y hy;obtain ⟨s,n,r,g,g4⟩:=h.que b y hy;obtain ⟨s',g5⟩:=hfw _ _ g4;exact ⟨s',n,r,g,g5⟩
 ·intro s b n r g hs;obtain ⟨s',h1⟩:=hbw s _ hs;exact h.hen s' b n r g h1
theorem zc {n:Int}(h1:3<=n)(h2:n<=6):pw n.toNat / 4=2 ^ (n-2).toNat/\pw n.toNat / 4<=16:=by
 have h:n=3\/n=4\/n=5\/n=6:=by omega
 rcases h with rfl | rfl | rfl | rfl<;>decide
theorem bq.nodeFree {R:dq}{K:a_}{D:List (Int×Int)}(h:bq R K D){a:Int}(ha:K.nodes a=none):R.N.find? (au a)=none:=by
 have h1:=h.rel.nodes a;rw [ha] at h1;unfold bf at h1;cases hf:R.N.find? (au a) with
 | none=>rfl
 | some l=>
  rw [hf] at h1;simp only [Option.getD_none] at h1;have:(0:Int)<2 ^ (l.bits-2).toNat:=Int.pow_pos (by omega);omega
theorem bq.thrFree {R:dq}{K:a_}{D:List (Int×Int)}(h:bq R K D){a:Int}(ha:K.thr a=none):R.T.find? (af a)=none:=by
 have h1:=h.rel.thr a;rw [ha] at h1;cases hf:R.T.find? (af a) with
 | none=>rfl
 | some l=>rw [hf] at h1;cases h1
theorem vi {α:Type}{l:List α}{a:α}(h:l.Nodup)(ha:a∉l):(l++[a]).Nodup:=by
 rw [List.nodup_append];refine ⟨h,by simp,?_⟩;intro x hx y hy e;simp at hy;subst hy;subst e;exact ha hx
theorem bq.setMark {R:dq}{K:a_}{D:List (Int×Int)}(h:bq R K D){p:Nat}(hp:p<R.L.length){b n m m':Int}(hs:K.held R.L[p].slot=some (.untyped b n m))(hm:m<=m'\/c_ K R.L[p].slot=false)(hm1:0<=m')(hm2:m'<=pw n.toNat):
 bq {R with L:=R.L.set p {R.L[p] with mark:=m'}} {K with held:=upd K.held R.L[p].slot (some (.untyped b n m'))} D:=by
 have hcap:=h.cap _ _ hs;simp only [KCap.base,KCap.bits,KCap.mark] at hcap;obtain ⟨F,hF⟩:=h.rel.tree;have hnd:=hF.nd;obtain ⟨ct,hct1,hct2⟩:=h.rel.cap _ (List.getElem_mem hp);rw [hs] at hct1;cases hct1
 have hkeys:(R.L.set p {R.L[p] with mark:=m'}).map aw.key=R.L.map aw.key:=by
  rw [List.map_set];apply List.ext_getElem
  ·simp
  ·intro j h1 h2;rw [List.getElem_set];split
   ·rename_i e;subst e;simp [aw.key,aw.slot]
   ·rfl
 have hmemset:∀e∈R.L.set p {R.L[p] with mark:=m'},(e={R.L[p] with mark:=m'})\/(e∈R.L/\e.slot≠R.L[p].slot):=by
  intro e he;obtain ⟨j,hj,rfl⟩:=List.getElem_of_mem he;have hj':j<R.L.length:=by simpa using hj
  rw [List.getElem_set];by_cases hpj:p=j
  ·rw [if_pos hpj];exact .inl rfl
  ·rw [if_neg hpj];refine .inr ⟨List.getElem_mem hj',fun e1=>hpj ?_⟩
   have e2:(R.L.map aw.slot)[j]'(by simpa using hj')=(R.L.map aw.slot)[p]'(by simpa using hp):=by simpa using e1
   exact ((List.getElem_inj hnd).1 e2).symm
 -- what a slot holds behind it,it held,but for the Mark
 have hold:∀s c',upd K.held R.L[p].slot (some (.untyped b n m')) s=some c'->(s=R.L[p].slot/\c'=.untyped b n m')\/(s≠R.L[p].slot/\K.held s=some c'):=by
  intro s c' h1;by_cases e:s=R.L[p].slot
  ·rw [e,ai] at h1;exact .inl ⟨e,(Option.some.inj h1).symm⟩
  ·rw [ae _ _ e] at h1;exact .inr ⟨e,h1⟩
 have hsn:R.L[p].slot≠nowhere:=ml (h.inN _ _ hs).1;have hfw:∀s c',K.held s=some c'->c'.isU=false->upd K.held R.L[p].slot (some (.untyped b n m')) s=some c':=by
  intro s c' h1 h2;have e:s≠R.L[p].slot:=fun e=>by rw [e,hs] at h1;cases h1;simp [KCap.isU] at h2
  rw [ae _ _ e];exact h1
 have hbw:∀s c',upd K.held R.L[p].slot (some (.untyped b n m')) s=some c'->c'.isU=false->K.held s=some c':=by
  intro s c' h1 h2;rcases hold s c' h1 with ⟨_,rfl⟩ | ⟨_,h3⟩
  ·simp [KCap.isU] at h2
  ·exact h3
 refine ⟨⟨?_,?_,⟨F,⟨hF.nodup,hF.top,hkeys.trans hF.flat,hF.stands,hF.roots,hF.only⟩⟩,h.rel.nodes,h.rel.thr⟩,h.geo.mark hs (hm.imp id (fun hk=>h.noUp hsn hk)),?_,h.dm,h.dn,?_,?_,?_,?_,?_,?_,?_,h.nd,h.td,h.nb,h.tb,?_,?_⟩
 ·intro e he;rcases hmemset e he with rfl | ⟨h1,h2⟩
  ·refine ⟨.untyped b n m',ai _ _ _,?_⟩;simp only [KCap.told,aw.told,Prod.mk.injEq] at hct2 ⊢;obtain ⟨a1,a2,a3,a4,a5,a6⟩:=hct2;exact ⟨a1,a2,a3,a4,a5,trivial⟩
  ·obtain ⟨c',e1,e2⟩:=h.rel.cap e h1;exact ⟨c',(ae _ _ h2).trans e1,e2⟩
 ·intro s hs';have h1:s≠R.L[p].slot:=fun e=>by
   refine hs' {R.L[p] with mark:=m'} ?_ e.symm;exact List.mem_set hp _
  show upd K.held R.L[p].slot _ s=none;rw [ae _ _ h1];refine h.rel.emp s (fun e he e1=>?_);obtain ⟨j,hj,rfl⟩:=List.getElem_of_mem he;have hpj:p≠j:=fun e3=>by subst e3;exact h1 e1.symm
  refine hs' R.L[j] ?_ e1;have:(R.L.set p {R.L[p] with mark:=m'})[j]'(by simpa using hj)=R.L[j]:=by rw [List.getElem_set,if_neg hpj]
  rw [<- this];exact List.getElem_mem _
 ·intro s c' hs';rcases hold s c' hs' with ⟨e,_⟩ | ⟨_,h1⟩
  ·rw [e];exact h.inN _ _ hs
  ·exact h.inN s c' h1
 ·intro b y hy;obtain ⟨g1,g2,g3,s,n,r,g4⟩:=h.nod b y hy;exact ⟨g1,g2,g3,s,n,r,hfw _ _ g4 rfl⟩
 ·intro s c' hs';rcases hold s c' hs' with ⟨_,rfl⟩ | ⟨_,h1⟩
  ·simp only [KCap.base,KCap.bits,KCap.mark];exact ⟨hcap.1,hcap.2.1,hcap.2.2.1,hcap.2.2.2.1,hm1,hm2⟩
  ·exact h.cap s c' h1
 ·intro s b n r h1;exact h.hno s b n r (hbw _ _ h1 rfl)
 ·intro b y hy;obtain ⟨s,n,r,g4⟩:=h.thd b y hy;exact ⟨s,n,r,hfw _ _ g4 rfl⟩
 ·intro s b n r h1;exact h.hth s b n r (hbw _ _ h1 rfl)
 ·intro b y hy;obtain ⟨s,n,r,g,g4⟩:=h.que b y hy;exact ⟨s,n,r,g,hfw _ _ g4 rfl⟩
 ·intro s b n r g h1;exact h.hen s b n r g (hbw _ _ h1 rfl)
 ·intro s c' h1;rcases hold s c' h1 with ⟨_,rfl⟩ | ⟨_,h3⟩
  ·exact ⟨(by decide:(0:Int)<=7),(by decide:(7:Int)<=7)⟩
  ·exact h.rt s c' h3
 ·intro d hd s c' h1 hu;rcases hold s c' h1 with ⟨_,rfl⟩ | ⟨_,h3⟩
  ·cases hu
  ·exact h.dap d hd s c' h3 hu
theorem Up.addS {st:Slot->Option nw}{t p a b:Slot}(htp:t≠p)(ht:st t=none)(h:Up st a b):Up (addS st t p) a b:=by
 refine h.mono (fun s x _ hx=>?_);have hst:s≠t:=fun e=>by rw [e,ht] at hx;cases hx
 by_cases e:s=p
 ·subst e;refine ⟨_,by simp only [Proofs.YtdpjgflemddekaaGreatDoor.addS];rw [ai],?_⟩;rw [ae _ _ (Ne.symm htp),hx];rfl
 ·exact ⟨x,by rw [pf e hst];exact hx,rfl⟩
theorem yl (K:a_)(t:Slot)(c:KCap)(p:Slot)(root:Int):(K.found t c p root).held=upd K.held t (some c):=by cases c<;>rfl
theorem bn7 (K:a_)(t:Slot)(c:KCap)(p:Slot)(root:Int):(K.found t c p root).st=addS K.st t p:=by cases c<;>rfl
theorem bo2 (ty a bits:Int):(ki ty a bits).base=a/\(ki ty a bits).bits=bits/\(ki ty a bits).mark=0:=by
 unfold ki;repeat' split
 all_goals exact ⟨rfl,rfl,rfl⟩
theorem bq.found {R:dq}{K:a_}(h:bq R K []){p:Nat}(hp:p<R.L.length)(n ix ty a bits root:Int)(hob:jo ty bits=true)(hx:K.held ⟨n,ix⟩=none)(hi:0<=ix/\ix<bt K n)
 {b nn m:Int} (hf:K.held R.L[p].slot=some (.untyped b nn m)) (h0:b<=a/\a+pw bits.toNat<=b+m) (hF:ah8 K R.L[p].slot a (pw bits.toNat)) (hal:ty=4->a % 16=0) :
 bq {L:=ns R.L p R.L[p].up ⟨n,ix,ty,a,bits,7,0,0,0⟩,N:=if ty=2 then R.N++[⟨a,bits⟩] else R.N,T:=if ty=4 then R.T++[⟨a,1,root,0,0,0⟩] else R.T}
  (K.found ⟨n,ix⟩ (ki ty a bits) R.L[p].slot root) []:=by
 have hpos:=lq bits.toNat;have hcf:=h.cap _ _ hf;simp only [KCap.base,KCap.bits,KCap.mark] at hcf;have hob':=hob;simp only [jo,Bool.and_eq_true,decide_eq_true_eq] at hob';obtain ⟨⟨t1,t2⟩,t3,t4⟩:=hob';have hty:ty=0\/ty=1\/ty=2\/ty=3\/ty=4\/ty=5:=by omega
 obtain ⟨z1,z2,z3⟩:=hF.node h hf (y:=a) (Int.le_refl _) (by omega);have ha:∀c:KCap,c.base=a->c.bits=bits->∀s e,s≠R.L[p].slot->K.held s=some e->ah9 c e\/jz c e\/(e.isU=true/\Up K.st s R.L[p].slot):=by
  intro c c1 c2 s e hs he;rcases hF s e hs he with g | g
  ·left;unfold ah9;rw [c1,c2];exact g.symm
  ·exact .inr (.inr g)
 have hcap:∀c:KCap,c.base=a->c.bits=bits->c.mark=0->0<=bits->bits<=10->0<=c.base/\0<=c.bits/\c.bits<=10/\c.base+pw c.bits.toNat<=1024/\0<=c.mark/\c.mark<=pw c.bits.toNat:=by
  intro c c1 c2 c3 g1 g2;rw [c1,c2,c3];omega
 have hw:∀c:KCap,c.base=a->c.bits=bits->rz (.untyped b nn m) c:=by
  intro c c1 c2;show _/\_;rw [c1,c2];exact h0
 rcases hty with rfl | rfl | rfl | rfl | rfl | rfl
 ·simp only [o9,sr] at t3 t4;omega
 ·simp only [o9,sr] at t3 t4;refine h.layG (N':=R.N) (T':=R.T) (nodes':=K.nodes) (thr':=K.thr) (qs':=K.qs) hp ⟨n,ix,1,a,bits,7,0,0,0⟩ (.untyped a bits 0) _ rfl hx hi (hcap _ rfl rfl rfl (by omega) (by omega)) hf (hw _ rfl rfl) (ha _ rfl rfl) (.inr rfl) ?_;exact ⟨h.rel.nodes,h.rel.thr,fun _ _=>id,fun _ _=>.inl,fun _ _=>id,fun _ _=>.inl,fun _ _=>id,fun _ _=>.inl,(fun _ _ _ e=>by cases e),(fun _ _ _ e=>by cases e),(fun _ _ _ _ e=>by cases e),(fun _ hd=>by cases hd),h.nd,h.td,h.nb,h.tb,⟨(by decide:(0:Int)<=7),(by decide:(7:Int)<=7)⟩,(fun _ hd=>by cases hd)⟩
 ·simp only [o9,sr] at t3 t4;obtain ⟨q1,q2⟩:=zc t3 t4;have hfi:=h.nodeFree z1;refine h.layG (N':=R.N++[⟨a,bits⟩]) (T':=R.T) (nodes':=upd K.nodes a (some (pw bits.toNat / 4))) (thr':=K.thr) (qs':=K.qs) hp ⟨n,ix,2,a,bits,7,0,0,0⟩ (.node a bits 7) _ rfl hx hi (hcap _ rfl rfl rfl (by omega) (by omega)) hf (hw _ rfl rfl) (ha _ rfl rfl) (.inr rfl) ?_;refine ⟨?_,h.rel.thr,?_,?_,fun _ _=>id,fun _ _=>.inl,fun _ _=>id,fun _ _=>.inl,?_,(fun _ _ _ e=>by cases e),(fun _ _ _ _ e=>by cases e),(fun _ hd=>by cases hd),?_,h.td,?_,h.tb,⟨(by decide:(0:Int)<=7),(by decide:(7:Int)<=7)⟩,(fun _ hd=>by cases hd)⟩
  ·intro b;unfold bf;rw [List.find?_append];by_cases e:b=a
   ·subst e;rw [ai,hfi];simp [au,q1]
   ·rw [ae _ _ e];have h1:=h.rel.nodes b;unfold bf at h1;rw [h1];have h2:List.find? (au b) [(⟨a,bits⟩:pp)]=none:=by simp [au,Ne.symm e]
    rw [h2,Option.or_none]
  ·intro b y hy;have e:b≠a:=fun e=>by rw [e,z1] at hy;cases hy
   rw [ae _ _ e];exact hy
  ·intro b y hy;by_cases e:b=a
   ·subst e;rw [ai] at hy;cases hy
    exact .inr ⟨by omega,by omega,q2,bits,7,rfl⟩
   ·rw [ae _ _ e] at hy;exact .inl hy
  ·intro b n r e;cases e;exact ⟨t3,t4,ai _ _ _⟩
  ·rw [List.map_append];refine vi h.nd ?_;intro e;obtain ⟨l,hl,e1⟩:=List.mem_map.1 e;rw [List.find?_eq_none] at hfi;exact hfi l hl (by simp [au,e1])
  ·intro l hl;rcases List.mem_append.1 hl with h1 | h1
   ·exact h.nb l h1
   ·simp at h1;subst h1;dsimp only;exact ⟨by omega,by omega,by omega,t4⟩
 ·simp only [o9,sr] at t3 t4;refine h.layG (N':=R.N) (T':=R.T) (nodes':=K.nodes) (thr':=K.thr) (qs':=upd K.qs a (some ([],[]))) hp ⟨n,ix,3,a,bits,7,0,0,0⟩ (.endpoint a bits 7 0) _ rfl hx hi (hcap _ rfl rfl rfl (by omega) (by omega)) hf (hw _ rfl rfl) (ha _ rfl rfl) (.inr rfl) ?_;refine ⟨h.rel.nodes,h.rel.thr,fun _ _=>id,fun _ _=>.inl,fun _ _=>id,fun _ _=>.inl,?_,?_,(fun _ _ _ e=>by cases e),(fun _ _ _ e=>by cases e),?_,(fun _ hd=>by cases hd),h.nd,h.td,h.nb,h.tb,⟨(by decide:(0:Int)<=7),(by decide:(7:Int)<=7)⟩,(fun _ hd=>by cases hd)⟩
  ·intro b y hy;have e:b≠a:=fun e=>by rw [e,z3] at hy;cases hy
   rw [ae _ _ e];exact hy
  ·intro b y hy;by_cases e:b=a
   ·subst e;exact .inr ⟨bits,7,0,rfl⟩
   ·rw [ae _ _ e] at hy;exact .inl hy
  ·intro b n r g e;cases e;exact ⟨_,ai _ _ _⟩
 ·simp only [o9,sr] at t3 t4;have hfi:=h.thrFree z2;refine h.layG (N':=R.N) (T':=R.T++[⟨a,1,root,0,0,0⟩]) (nodes':=K.nodes) (thr':=upd K.thr a (some ⟨1,root,0,0,0⟩)) (qs':=K.qs) hp ⟨n,ix,4,a,bits,7,0,0,0⟩ (.task a bits 7) _ rfl hx hi (hcap _ rfl rfl rfl (by omega) (by omega)) hf (hw _ rfl rfl) (ha _ rfl rfl) (.inr rfl) ?_;refine ⟨h.rel.nodes,?_,fun _ _=>id,fun _ _=>.inl,?_,?_,fun _ _=>id,fun _ _=>.inl,(fun _ _ _ e=>by cases e),?_,(fun _ _ _ _ e=>by cases e),(fun _ hd=>by cases hd),h.nd,?_,h.nb,?_,⟨(by decide:(0:Int)<=7),(by decide:(7:Int)<=7)⟩,(fun _ hd=>by cases hd)⟩
  ·intro b;rw [List.find?_append];by_cases e:b=a
   ·subst e;rw [ai,hfi];simp [af,ej.thd]
   ·rw [ae _ _ e];have h1:=h.rel.thr b;have h2:List.find? (af b) [(⟨a,1,root,0,0,0⟩:ej)]=none:=by simp [af,Ne.symm e]
    rw [h2,Option.or_none,h1]
  ·intro b y hy;have e:b≠a:=fun e=>by rw [e,z2] at hy;cases hy
   rw [ae _ _ e];exact hy
  ·intro b y hy;by_cases e:b=a
   ·subst e;exact .inr ⟨bits,7,rfl⟩
   ·rw [ae _ _ e] at hy;exact .inl hy
  ·intro b n r e;cases e;exact ⟨_,ai _ _ _⟩
  ·rw [List.map_append];refine vi h.td ?_;intro e;obtain ⟨l,hl,e1⟩:=List.mem_map.1 e;rw [List.find?_eq_none] at hfi;exact hfi l hl (by simp [af,e1])
  ·intro l hl;rcases List.mem_append.1 hl with h1 | h1
   ·exact h.tb l h1
   ·simp at h1;subst h1;dsimp only;exact ⟨by omega,by omega,hal rfl⟩
 ·simp only [o9,sr] at t3 t4;refine h.layG (N':=R.N) (T':=R.T) (nodes':=K.nodes) (thr':=K.thr) (qs':=K.qs) hp ⟨n,ix,5,a,bits,7,0,0,0⟩ (.frame a bits 7) _ rfl hx hi (hcap _ rfl rfl rfl (by omega) (by omega)) hf (hw _ rfl rfl) (ha _ rfl rfl) (.inr rfl) ?_;exact ⟨h.rel.nodes,h.rel.thr,fun _ _=>id,fun _ _=>.inl,fun _ _=>id,fun _ _=>.inl,fun _ _=>id,fun _ _=>.inl,(fun _ _ _ e=>by cases e),(fun _ _ _ e=>by cases e),(fun _ _ _ _ e=>by cases e),(fun _ hd=>by cases hd),h.nd,h.td,h.nb,h.tb,⟨(by decide:(0:Int)<=7),(by decide:(7:Int)<=7)⟩,(fun _ hd=>by cases hd)⟩
theorem ah8.found {K:a_}{f:Slot}{a z a0:Int}(h:ah8 K f a z)(t:Slot)(ty bits root:Int)(htf:t≠f)(ht:K.st t=none)(hd:a0+pw bits.toNat<=a):ah8 (K.found t (ki ty a0 bits) f root) f a z:=by
 intro s e hs he;rw [yl] at he;rw [bn7];by_cases e1:s=t
 ·rw [e1,ai] at he;cases he
  obtain ⟨m1,m2,_⟩:=bo2 ty a0 bits;rw [m1,m2];left;left;exact hd
 ·rw [ae _ _ e1] at he;exact (h s e hs he).imp id (fun g=>⟨g.1,g.2.addS htf ht⟩)
theorem a58 (K:a_)(t:Slot)(ty a bits:Int)(p:Slot)(root b:Int)(h:K.nodes a=none):bt K b<=0\/bt (K.found t (ki ty a bits) p root) b=bt K b:=by
 unfold ki;split
 ·exact .inr rfl
 ·split
  ·by_cases e:b=a
   ·left;unfold bt;rw [e,h];simp
   ·right;show (upd K.nodes a _ b).getD 0=_;rw [ae _ _ e];rfl
  ·split
   ·exact .inr rfl
   ·split<;>exact .inr rfl
structure wg (K K':a_):Prop where
 thr:∀b t,K.thr b=some t->K'.thr b=some t
 qs:∀b y,K.qs b=some y->K'.qs b=some y
 new:∀b y,K'.qs b=some y->K.qs b=some y\/(K.qs b=none/\y=([],[]))
theorem wg.refl (K:a_):wg K K:=⟨fun _ _=>id,fun _ _=>id,fun _ _=>.inl⟩
theorem wg.trans {K K1 K2:a_}(h:wg K K1)(g:wg K1 K2):wg K K2:=
 ⟨fun b t e=>g.thr b t (h.thr b t e),fun b y e=>g.qs b y (h.qs b y e),fun b y e=>by
  rcases g.new b y e with e1 | ⟨e1,e2⟩
  ·exact h.new b y e1
  ·cases hk:K.qs b with
   | none=>exact .inr ⟨rfl,e2⟩
   | some z=>rw [h.qs b z hk] at e1;cases e1⟩
theorem bb0 (K:a_)(t:Slot)(ty a bits:Int)(p:Slot)(root:Int)(ht:K.thr a=none)(hq:K.qs a=none):wg K (K.found t (ki ty a bits) p root):=by
 unfold ki;split
 ·exact ⟨fun _ _=>id,fun _ _=>id,fun _ _=>.inl⟩
 ·split
  ·exact ⟨fun _ _=>id,fun _ _=>id,fun _ _=>.inl⟩
  ·split
   ·refine ⟨fun _ _=>id,fun b y e=>?_,fun b y e=>?_⟩
    ·show upd K.qs a (some ([],[])) b=some y;rw [ae _ _ (fun e1=>by rw [e1,hq] at e;cases e)];exact e
    ·have e':upd K.qs a (some ([],[])) b=some y:=e;by_cases e1:b=a
     ·rw [e1,ai] at e';cases e';exact .inr ⟨by rw [e1];exact hq,rfl⟩
     ·rw [ae _ _ e1] at e';exact .inl e'
   ·split
    ·refine ⟨fun b y e=>?_,fun _ _=>id,fun _ _=>.inl⟩
     show upd K.thr a _ b=some y;rw [ae _ _ (fun e1=>by rw [e1,ht] at e;cases e)];exact e
    ·exact ⟨fun _ _=>id,fun _ _=>id,fun _ _=>.inl⟩
theorem av9 {ty bits s:Int}(hob:jo ty bits=true)(e:ty=4)(hs:s % 16=0)(i:Nat):(s+i*pw bits.toNat) % 16=0:=by
 simp only [jo,Bool.and_eq_true,decide_eq_true_eq] at hob;subst e;simp only [o9,sr] at hob;have:bits=4:=by omega
 subst this;have:pw (4:Int).toNat=16:=by decide
 rw [this];omega
theorem bq.carve {R:dq}{K:a_}(h:bq R K []){p:Nat}(hp:p<R.L.length)(c:Cl)(n ix s root:Int)(cnt:Nat)(hob:jo c.ty c.bits=true)
 (hx:∀i:Nat,i<cnt->K.held ⟨n,ix+i⟩=none) (hi:0<=ix/\ix+cnt<=bt K n) {b nn m:Int} (hf:K.held R.L[p].slot=some (.untyped b nn m)) (h0:b<=s/\s+cnt*pw c.bits.toNat<=b+m) (hF:ah8 K R.L[p].slot s (cnt*pw c.bits.toNat)) (hal:c.ty=4->s % 16=0) :
 ∀i:Nat,i<=cnt->∃e,(jl R root p R.L[p].up n ix c s i).L[p]?=some e/\e=R.L[p]/\bq (jl R root p R.L[p].up n ix c s i) (dc K R.L[p].slot ⟨n,ix⟩ c.ty c.bits root s i) []/\
  ah8 (dc K R.L[p].slot ⟨n,ix⟩ c.ty c.bits root s i) R.L[p].slot (s+i*pw c.bits.toNat) ((cnt-i:Nat)*pw c.bits.toNat)/\
  (∀j:Nat,i<=j->j<cnt->(dc K R.L[p].slot ⟨n,ix⟩ c.ty c.bits root s i).held ⟨n,ix+j⟩=none)/\ix+cnt<=bt (dc K R.L[p].slot ⟨n,ix⟩ c.ty c.bits root s i) n/\
  (dc K R.L[p].slot ⟨n,ix⟩ c.ty c.bits root s i).held R.L[p].slot=some (.untyped b nn m)/\
  wg K (dc K R.L[p].slot ⟨n,ix⟩ c.ty c.bits root s i)
 | 0,_=>by
  refine ⟨R.L[p],by simp [jl,hp],rfl,h,?_,fun j _ hj=>hx j hj,hi.2,hf,wg.refl K⟩
  simpa [dc] using hF
 | i+1,hle=>by
  obtain ⟨e,e1,e2,e3,e4,e5,e6,e7,e8⟩:=bq.carve h hp c n ix s root cnt hob hx hi hf h0 hF hal i (by omega);subst e2;have hpos:=lq c.bits.toNat;have hpL:p<(jl R root p R.L[p].up n ix c s i).L.length:=by
   rw [List.getElem?_eq_some_iff] at e1;exact e1.1
  have hget:(jl R root p R.L[p].up n ix c s i).L[p]=R.L[p]:=by
   rw [List.getElem?_eq_some_iff] at e1;exact e1.2
  have hz:((cnt-i:Nat):Int)*pw c.bits.toNat=pw c.bits.toNat+((cnt-(i+1):Nat):Int)*pw c.bits.toNat:=by
   have:cnt-i=(cnt-(i+1))+1:=by omega
   rw [this];push_cast;rw [Int.add_mul];omega
  have hnn:0<=((cnt-(i+1):Nat):Int)*pw c.bits.toNat:=Int.mul_nonneg (by omega) (by omega);have hin:0<=(i:Int)*pw c.bits.toNat:=Int.mul_nonneg (by omega) (by omega);have htot:(i:Int)*pw c.bits.toNat+((cnt-i:Nat):Int)*pw c.bits.toNat=cnt*pw c.bits.toNat:=by
   rw [<- Int.add_mul];congr 1;omega
  have hFi:ah8 (dc K R.L[p].slot ⟨n,ix⟩ c.ty c.bits root s i) R.L[p].slot (s+i*pw c.bits.toNat) (pw c.bits.toNat):=
   fun t e ht he=>(e4 t e ht he).imp (fun g=>g.imp id (fun g=>by omega)) id
  have hxi:=e5 i (Nat.le_refl _) (by omega);have hne:(⟨n,ix+i⟩:Slot)≠R.L[p].slot:=fun e=>by rw [e,e7] at hxi;cases hxi
  have hC:=e3.found hpL n (ix+i) c.ty (s+i*pw c.bits.toNat) c.bits root hob hxi ⟨by omega,by omega⟩ (by rw [hget];exact e7) ⟨by omega,by omega⟩ (by rw [hget];exact hFi) (fun e=>av9 hob e (hal e) i)
  rw [hget] at hC;have hsucc:s+((i+1:Nat):Int)*pw c.bits.toNat=s+i*pw c.bits.toNat+pw c.bits.toNat:=by push_cast;rw [Int.add_mul];omega
  obtain ⟨hno,hno2,hno3⟩:=hFi.node e3 e7 (y:=s+i*pw c.bits.toNat) (Int.le_refl _) (by omega);refine ⟨R.L[p],?_,rfl,hC,?_,?_,?_,?_,e8.trans (bb0 _ _ _ _ _ _ _ hno2 hno3)⟩
  ·simp only [jl];rw [a40 _ _ _ _ hpL,hget]
  ·rw [hsucc];refine ah8.found (a0:=s+i*pw c.bits.toNat) ?_ _ _ _ _ hne (e3.rel.treeOk.empty _ hxi (by show 0<=ix+i;omega)) (Int.le_refl _);exact fun t e ht he=>(e4 t e ht he).imp (fun g=>g.imp (fun g=>by omega) (fun g=>by omega)) id
  ·intro j h1 h2;simp only [dc];rw [yl,ae _ _ (fun e=>by simp only [Slot.mk.injEq] at e;omega)];exact e5 j (by omega) h2
  ·simp only [dc];rcases a58 (dc K R.L[p].slot ⟨n,ix⟩ c.ty c.bits root s i) ⟨n,ix+i⟩ c.ty (s+i*pw c.bits.toNat) c.bits R.L[p].slot root n hno with h1 | h1
   ·omega
   ·rw [h1];exact e6
  ·simp only [dc];rw [yl,ae _ _ (Ne.symm hne)];exact e7
theorem as6 (K:a_)(f:Slot)(n ix ty bits root s:Int)(u:KCap):∀i:Nat,(∀j:Nat,j<i->f≠⟨n,ix+j⟩)->
 dc {K with held:=upd K.held f (some u)} f ⟨n,ix⟩ ty bits root s i={dc K f ⟨n,ix⟩ ty bits root s i with held:=upd (dc K f ⟨n,ix⟩ ty bits root s i).held f (some u)}
 | 0,_=>rfl
 | i+1,h=>by
  have ih:=as6 K f n ix ty bits root s u i (fun j hj=>h j (by omega))
  simp only [dc];rw [ih];have hne:f≠⟨n,ix+i⟩:=h i (by omega);have hc:∀(H:Slot->Option KCap) (c:KCap),upd (upd H f (some u)) ⟨n,ix+i⟩ (some c)=upd (upd H ⟨n,ix+i⟩ (some c)) f (some u):=by
   intro H c;funext t;by_cases e1:t=⟨n,ix+i⟩
   ·rw [e1,ai,ae _ _ (Ne.symm hne),ai]
   ·rw [ae _ _ e1];by_cases e2:t=f
    ·rw [e2,ai,ai]
    ·rw [ae _ _ e2,ae _ _ e2,ae _ _ e1]
  generalize ki ty (s+i*pw bits.toNat) bits=c;cases c<;>simp only [a_.found,a_.lay,hc]
def dj (K:a_):Option (Int×a_)->Int×a_
 | some y=>y
 | none=>(2,K)
theorem ae0 (c:Cl):rh c=true ↔ jo c.ty c.bits=true/\1<=c.count/\c.count<=8:=by
 simp only [rh,jo,decide_eq_true_eq,Bool.and_eq_true];by_cases h:0<=c.ty/\c.ty<6
 ·have hty:c.ty=0\/c.ty=1\/c.ty=2\/c.ty=3\/c.ty=4\/c.ty=5:=by omega
  rcases hty with e | e | e | e | e | e<;>rw [e]<;>simp only [o9,sr]<;>constructor
  ·intro h;omega
  ·intro h;omega
  all_goals
   intro h;first
   |(obtain ⟨a1,a2,a3,a4,a5,a6⟩:=h;exact ⟨⟨⟨by omega,by omega⟩,a3,a4⟩,a5,a6⟩)
   |(obtain ⟨⟨⟨a1,a2⟩,a3,a4⟩,a5,a6⟩:=h;exact ⟨by omega,by omega,a3,a4,a5,a6⟩)
 ·constructor
  ·intro h1;omega
  ·intro h1;exact absurd h1.1.1 h
theorem yt {L:List aw}{N:List pp}{r:Int}(h:bf N r=0)(l:List Int):bk L N r l=none:=by
 unfold bk;split
 ·rfl
 ·have hok:∀x,pt N r x=false:=by
   intro x;unfold pt;rw [h];by_cases hx:0<=x
   ·have:¬x<0:=by omega
    simp [this]
   ·simp [hx]
  match l with
  | []=>rfl
  | [x]=>simp [goF,hok]
  | x :: y :: r'=>simp [goF,hok]
theorem bq.still {R:dq}{K:a_}{D:List (Int×Int)}(h:bq R K D)(root:Int)(l:List Int):bk R.L R.N (fx R.N root) l=bk R.L R.N root l:=by
 unfold fx;split
 ·rfl
 ·rename_i hn;have h1:R.N.find? (au root)=none:=by
   rw [List.find?_eq_none];intro x hx hb;exact hn (List.any_eq_true.2 ⟨x,hx,hb⟩)
  have h2:bf R.N root=0:=by unfold bf;rw [h1]
  have h3:bf R.N (-1)=0:=by
   unfold bf;cases hf:R.N.find? (au (-1)) with
   | none=>rfl
   | some x=>
    have hb:=List.find?_some hf;have:=h.nb x (List.mem_of_find?_eq_some hf);simp [au] at hb;omega
  rw [yt h2,yt h3]
theorem by3 {R:dq}{root:Int}{l:List Int}{p:Int×Int}(hf:bk R.L R.N root l=some p):fx R.N root=root:=by
 unfold fx;split
 ·rfl
 ·rename_i hn;have h1:R.N.find? (au root)=none:=by
   rw [List.find?_eq_none];intro x hx hb;exact hn (List.any_eq_true.2 ⟨x,hx,hb⟩)
  have h2:bf R.N root=0:=by unfold bf;rw [h1]
  rw [yt h2] at hf;cases hf
theorem bq.found_ok {R:dq}{K:a_}{D:List (Int×Int)}(h:bq R K D){root n i:Int}{l:List Int}(hf:bk R.L R.N root l=some (n,i)):0<=i/\i<bt K n:=by
 have:=an3 hf;unfold bt;rw [h.rel.nodes];exact this
theorem yi.idx {R:dq}{K:a_}(h:yi R K)(n i:Int):(R.L.findIdx? (ee n i)=none/\K.held ⟨n,i⟩=none)\/
 ∃p,∃hp:p<R.L.length,R.L.findIdx? (ee n i)=some p/\R.L[p].slot=⟨n,i⟩/\∃c,K.held ⟨n,i⟩=some c/\c.told=R.L[p].told:=by
 cases hf:R.L.findIdx? (ee n i) with
 | none=>
  refine .inl ⟨rfl,(h.none_iff n i).2 ?_⟩;rw [List.findIdx?_eq_none_iff] at hf;rw [List.find?_eq_none];intro x hx;simp [hf x hx]
 | some p=>
  rw [List.findIdx?_eq_some_iff_getElem] at hf;obtain ⟨hp,h1,_⟩:=hf;have h2:=ac1.1 h1;obtain ⟨c,h3,h4⟩:=h.cap _ (List.getElem_mem hp);rw [h2] at h3;exact .inr ⟨p,hp,rfl,h2,c,h3,h4⟩
theorem ak1 {c:KCap}{e:aw}(h:c.told=e.told):(e.ty=1 ↔ c.isU=true)/\(e.ty=3 ↔ c.isE=true):=by
 cases c<;>simp only [KCap.told,aw.told,Prod.mk.injEq] at h<;>obtain ⟨h1,_⟩:=h<;>simp [<- h1,KCap.isU,KCap.isE]
theorem bl9 {c:KCap}{e:aw}(h:c.told=e.told)(hu:c.isU=false)(r n i u:Int):(fj c r).told=aw.told {e with node:=n,index:=i,rights:=gp e.rights r,up:=u}:=by
 cases c<;>simp only [KCap.told,aw.told,Prod.mk.injEq] at h<;>obtain ⟨h1,h2,h3,h4,h5,h6⟩:=h
 ·simp [KCap.isU] at hu
 all_goals simp only [fj,KCap.told,aw.told,Prod.mk.injEq];exact ⟨h1,h2,h3,by rw [h4],h5,h6⟩
theorem bk7 (c:KCap)(r:Int):(fj c r).base=c.base/\(fj c r).bits=c.bits/\(fj c r).mark=c.mark/\(fj c r).isU=c.isU:=by
 cases c<;>exact ⟨rfl,rfl,rfl,rfl⟩
theorem ba0 {a b:Int}(ha:0<=a/\a<=7)(hb:0<=b/\b<=7):0<=gp a b/\gp a b<=7:=by
 obtain ⟨a1,a2⟩:=ha;obtain ⟨b1,b2⟩:=hb;have ea:a=0\/a=1\/a=2\/a=3\/a=4\/a=5\/a=6\/a=7:=by omega
 have eb:b=0\/b=1\/b=2\/b=3\/b=4\/b=5\/b=6\/b=7:=by omega
 rcases ea with rfl | rfl | rfl | rfl | rfl | rfl | rfl | rfl<;>rcases eb with rfl | rfl | rfl | rfl | rfl | rfl | rfl | rfl<;>decide
theorem ag8 {c:KCap}{r:Int}(h:0<=c.rights/\c.rights<=7)(hr:0<=r/\r<=7):0<=(fj c r).rights/\(fj c r).rights<=7:=by
 cases c
 ·exact h
 all_goals exact ba0 h hr
theorem bq.child {R:dq}{K:a_}{D:List (Int×Int)}(h:bq R K D){p:Nat}(hp:p<R.L.length)(root:Int)(l:List Int)(c' d:KCap)(x:aw)(hd:K.held R.L[p].slot=some d)(hso:jz d c')(hbg:d.badge=0\/c'.badge=d.badge)
 (hcap:0<=c'.base/\0<=c'.bits/\c'.bits<=10/\c'.base+pw c'.bits.toNat<=1024/\0<=c'.mark/\c'.mark<=pw c'.bits.toNat) (hc:c'.told=x.told) (hrt:0<=c'.rights/\c'.rights<=7) :
 (∃X,(match bk R.L R.N root l with
   | none=>((2:Int),R.L)
   | some (n,i)=>if (R.L.find? (ee n i)).isSome then (4,R.L) else (0,ns R.L p R.L[p].up {x with node:=n,index:=i}))=X/\
   X.1=(dj K (cj K root l c' R.L[p].slot)).1/\bq {R with L:=X.2} (dj K (cj K root l c' R.L[p].slot)).2 D):=by
 refine ⟨_,rfl,?_⟩;unfold cj;rw [h.rel.find];cases hf:bk R.L R.N root l with
 | none=>exact ⟨rfl,h⟩
 | some q=>
  obtain ⟨n,i⟩:=q;simp only [Option.map_some];have hs:K.held (ta (n,i))=K.held ⟨n,i⟩:=rfl;rw [hs,h.rel.isSome];by_cases he:(R.L.find? (ee n i)).isSome=true
  ·simp only [he,if_true];exact ⟨rfl,h⟩
  ·simp only [he];have hn:K.held ⟨n,i⟩=none:=by
    rw [h.rel.none_iff];cases hx:R.L.find? (ee n i) with
    | none=>rfl
    | some y=>rw [hx] at he;exact absurd rfl he
   refine ⟨rfl,?_⟩;exact h.copied hp {x with node:=n,index:=i} c' d (by rw [hc];rfl) hn (h.found_ok hf) hcap hd hso hbg hrt
theorem bq.copy {R:dq}{K:a_}{D:List (Int×Int)}(h:bq R K D){p:Nat}(hp:p<R.L.length)(root:Int)(c:Cl)(k:KCap)(hk:K.held R.L[p].slot=some k)(ht:k.told=R.L[p].told)(hkind:c.kind=2):
 (bw R root c p R.L[p]).1=(dj K (if k.isU then some (3,K) else if 0<=c.rights/\c.rights<=7 then cj K root c.to (fj k c.rights) R.L[p].slot else some (7,K))).1/\
 bq {R with L:=(bw R root c p R.L[p]).2} (dj K (if k.isU then some (3,K) else if 0<=c.rights/\c.rights<=7 then cj K root c.to (fj k c.rights) R.L[p].slot else some (7,K))).2 D:=by
 obtain ⟨t1,_⟩:=ak1 ht;by_cases hu:k.isU=true
 ·have hL:bw R root c p R.L[p]=(3,R.L):=by unfold bw;rw [if_pos (.inl ⟨hkind,t1.2 hu⟩)]
  rw [hL,if_pos hu];exact ⟨rfl,h⟩
 ·rw [if_neg hu];have hty:¬R.L[p].ty=1:=fun e=>hu (t1.1 e)
  have h1:¬(c.kind=2/\R.L[p].ty=1\/c.kind=3/\R.L[p].ty≠3):=by rintro (⟨_,e⟩ | ⟨e,_⟩);exact hty e;omega
  have h2:¬(c.kind=3/\R.L[p].badge≠0):=by rintro ⟨e,_⟩;omega
  by_cases hr:0<=c.rights/\c.rights<=7
  ·rw [if_pos hr];have h3:¬((c.kind≠4/\(c.rights<0\/7<c.rights))\/(c.kind=3/\(c.badge<1\/65535<c.badge))):=by omega
   have h4:¬c.kind=4:=by omega
   have h5:¬c.kind=3:=by omega
   have hu':k.isU=false:=by simpa using hu
   obtain ⟨s1,s2,s3,s4⟩:=bk7 k c.rights;have hcap:=h.cap _ k hk;have hch:=h.child hp root c.to (fj k c.rights) k {R.L[p] with rights:=gp R.L[p].rights c.rights,badge:=R.L[p].badge,up:=0} hk ⟨hu',by cases k<;>rfl,s1.symm,s2.symm⟩ (.inr (by cases k<;>rfl)) (by rw [s1,s2,s3];exact hcap)
    (by rw [bl9 ht hu' c.rights 0 0 0];rfl) (ag8 (h.rt _ _ hk) hr)
   obtain ⟨X,hX,hA,hB⟩:=hch;have hL:bw R root c p R.L[p]=X:=by
    rw [<- hX];unfold bw;rw [if_neg h1,if_neg h2,if_neg h3];cases bk R.L R.N root c.to with
    | none=>rfl
    | some q=>
     obtain ⟨n,i⟩:=q;simp only;split
     ·rfl
     ·first | rfl | rw [if_neg h4,if_neg h5]
   rw [hL];exact ⟨hA,hB⟩
  ·rw [if_neg hr];have hL:bw R root c p R.L[p]=(7,R.L):=by unfold bw;rw [if_neg h1,if_neg h2,if_pos (.inl ⟨by omega,by omega⟩)]
   rw [hL];exact ⟨rfl,h⟩
def an2 (K:a_)(root:Int)(c:Cl)(s:Slot)(k:KCap):Option (Int×a_):=
 match k with
 | .endpoint b n q g=>if g≠0 then some (5,K) else if (0<=c.rights/\c.rights<=7)/\1<=c.badge/\c.badge<=65535 then cj K root c.to (fj (.endpoint b n q c.badge) c.rights) s else some (7,K)
 | _=>some (3,K)
theorem bq.mint {R:dq}{K:a_}{D:List (Int×Int)}(h:bq R K D){p:Nat}(hp:p<R.L.length)(root:Int)(c:Cl)(k:KCap)(hk:K.held R.L[p].slot=some k)(ht:k.told=R.L[p].told)(hkind:c.kind=3):
 (bw R root c p R.L[p]).1=(dj K (an2 K root c R.L[p].slot k)).1/\
 bq {R with L:=(bw R root c p R.L[p]).2} (dj K (an2 K root c R.L[p].slot k)).2 D:=by
 obtain ⟨_,t1⟩:=ak1 ht;by_cases he:k.isE=true
 ·cases k with
  | endpoint b n q g=>
   have hcap:=h.cap _ _ hk;have h0:¬c.kind=2:=by omega
   have h4:¬c.kind=4:=by omega
   have h1:¬(c.kind=2/\R.L[p].ty=1\/c.kind=3/\R.L[p].ty≠3):=by rintro (⟨e,_⟩ | ⟨_,e⟩);exact h0 e;exact e (t1.2 he)
   have ht':=ht;simp only [KCap.told,aw.told,Prod.mk.injEq] at ht';obtain ⟨a1,a2,a3,a4,a5,a6⟩:=ht';simp only [an2];by_cases hg:g=0
   ·rw [if_neg (by simp [hg])];have h2:¬(c.kind=3/\R.L[p].badge≠0):=by rintro ⟨_,e⟩;exact e (by rw [<- a5];exact hg)
    by_cases hr:(0<=c.rights/\c.rights<=7)/\1<=c.badge/\c.badge<=65535
    ·rw [if_pos hr];have h3:¬((c.kind≠4/\(c.rights<0\/7<c.rights))\/(c.kind=3/\(c.badge<1\/65535<c.badge))):=by omega
     have hch:=h.child hp root c.to (fj (.endpoint b n q c.badge) c.rights) (.endpoint b n q g) {R.L[p] with rights:=gp R.L[p].rights c.rights,badge:=c.badge,up:=0} hk ⟨rfl,rfl,rfl,rfl⟩ (.inl hg) hcap
      (by simp only [fj,KCap.told,aw.told,Prod.mk.injEq];exact ⟨a1,a2,a3,by rw [a4],trivial,a6⟩) (ag8 (c:=.endpoint b n q c.badge) (h.rt _ (.endpoint b n q g) hk) hr.1)
     obtain ⟨X,hX,hA,hB⟩:=hch;have hL:bw R root c p R.L[p]=X:=by
      rw [<- hX];unfold bw;rw [if_neg h1,if_neg h2,if_neg h3];cases bk R.L R.N root c.to with
      | none=>rfl
      | some q=>
       obtain ⟨n,i⟩:=q;simp only;split
       ·rfl
       ·first | rfl | rw [if_neg h4,if_pos hkind]
     rw [hL];exact ⟨hA,hB⟩
    ·rw [if_neg hr];have hL:bw R root c p R.L[p]=(7,R.L):=by unfold bw;rw [if_neg h1,if_neg h2,if_pos (by omega)]
     rw [hL];exact ⟨rfl,h⟩
   ·rw [if_pos hg];have hL:bw R root c p R.L[p]=(5,R.L):=by unfold bw;rw [if_neg h1,if_pos ⟨hkind,by rw [<- a5];exact hg⟩]
    rw [hL];exact ⟨rfl,h⟩
  | _=>simp [KCap.isE] at he
 ·have hL:bw R root c p R.L[p]=(3,R.L):=by unfold bw;rw [if_pos (.inr ⟨hkind,fun e=>he (t1.1 e)⟩)]
  have hM:an2 K root c R.L[p].slot k=some (3,K):=by
   cases k<;>first | rfl | (simp [KCap.isE] at he)
  rw [hL,hM];exact ⟨rfl,h⟩
theorem bq.moves {R:dq}{K:a_}{D:List (Int×Int)}(h:bq R K D){p:Nat}(hp:p<R.L.length)(root:Int)(c:Cl)(k:KCap)(hk:K.held R.L[p].slot=some k)(hkind:c.kind=4):
 (bw R root c p R.L[p]).1=(dj K (match az K root c.to with
   | none=>none
   | some t=>if (K.held t).isSome then some (4,K) else some (0,K.move R.L[p].slot t k))).1/\
 bq {R with L:=(bw R root c p R.L[p]).2} (dj K (match az K root c.to with
  | none=>none
  | some t=>if (K.held t).isSome then some (4,K) else some (0,K.move R.L[p].slot t k))).2 D:=by
 have h1:¬(c.kind=2/\R.L[p].ty=1\/c.kind=3/\R.L[p].ty≠3):=by omega
 have h2:¬(c.kind=3/\R.L[p].badge≠0):=by omega
 have h3:¬((c.kind≠4/\(c.rights<0\/7<c.rights))\/(c.kind=3/\(c.badge<1\/65535<c.badge))):=by omega
 have hL:bw R root c p R.L[p]=(match bk R.L R.N root c.to with
  | none=>(2,R.L)
  | some (n,i)=>if (R.L.find? (ee n i)).isSome then (4,R.L) else (0,R.L.set p {R.L[p] with node:=n,index:=i})):=by
  unfold bw;rw [if_neg h1,if_neg h2,if_neg h3];cases bk R.L R.N root c.to with
  | none=>rfl
  | some q=>
   obtain ⟨n,i⟩:=q;simp only;split
   ·rfl
   ·first | rfl | rw [if_pos hkind]
 rw [hL,h.rel.find];cases hf:bk R.L R.N root c.to with
 | none=>exact ⟨rfl,h⟩
 | some q=>
  obtain ⟨n,i⟩:=q;simp only [Option.map_some];have hs:K.held (ta (n,i))=K.held ⟨n,i⟩:=rfl;rw [hs,h.rel.isSome];by_cases he:(R.L.find? (ee n i)).isSome=true
  ·simp only [he,if_true];exact ⟨rfl,h⟩
  ·simp only [he];have hn:K.held ⟨n,i⟩=none:=by
    rw [h.rel.none_iff];cases hx:R.L.find? (ee n i) with
    | none=>rfl
    | some y=>rw [hx] at he;exact absurd rfl he
   exact ⟨rfl,h.move hp k hk n i hn (h.found_ok hf)⟩
theorem ak3 {R:dq}{K:a_}(h:yi R K)(n ix:Int)(cnt:Nat):((ci ⟨n,ix⟩ cnt).all fun t=>(K.held t).isNone)=!ko R.L n ix cnt:=by
 unfold ci ko;rw [Bool.eq_iff_iff];simp only [List.all_map,List.all_eq_true,Bool.not_eq_true',Function.comp];rw [<- Bool.not_eq_true,List.any_eq_true];constructor
 ·rintro h1 ⟨i,hi,h2⟩;have:=h1 i hi;rw [<- h.isSome] at h2;rw [Option.isNone_iff_eq_none] at this;rw [this] at h2;cases h2
 ·intro h1 i hi;rw [Option.isNone_iff_eq_none];cases hh:K.held ⟨n,ix+i⟩ with
  | none=>rfl
  | some k=>exact absurd ⟨i,hi,by rw [<- h.isSome,hh];rfl⟩ h1
def ad_ (R:dq)(root:Int)(c:Cl)(p:Nat)(e:aw)(n ix:Int):Int×dq:=
 if e.base+pw e.bits.toNat<ji c e+c.count*pw c.bits.toNat then (6,R)
 else (0,jl {R with L:=R.L.set p {e with mark:=ji c e+c.count*pw c.bits.toNat-e.base}} root p e.up n ix c (ji c e) c.count.toNat)
theorem ba8 {ty bits s:Int}(hob:jo ty bits=true)(e:ty=4):nu s (pw bits.toNat) % 16=0:=by
 simp only [jo,Bool.and_eq_true,decide_eq_true_eq] at hob;subst e;simp only [o9,sr] at hob;have:bits=4:=by omega
 subst this;have:pw (4:Int).toNat=16:=by decide
 rw [this];unfold nu;split<;>omega
theorem bq.carves {R:dq}{K:a_}(h:bq R K []){p:Nat}(hp:p<R.L.length)(root:Int)(c:Cl)(m:Int)(hk:K.held R.L[p].slot=some (.untyped R.L[p].base R.L[p].bits m))(hm:R.L[p].mark=m)
 (hob:rh c=true) {nd ix:Int} {l:List Int} (hf:bk R.L R.N root l=some (nd,ix)) (hroom:¬bf R.N nd<ix+c.count) (hfu:ko R.L nd ix c.count.toNat=false) :
 (ad_ R root c p R.L[p] nd ix).1=(ld K R.L[p].slot ⟨nd,ix⟩ c.ty c.bits root R.L[p].base R.L[p].bits m c.count.toNat).1/\
 bq (ad_ R root c p R.L[p] nd ix).2 (ld K R.L[p].slot ⟨nd,ix⟩ c.ty c.bits root R.L[p].base R.L[p].bits m c.count.toNat).2 []/\wg K (ld K R.L[p].slot ⟨nd,ix⟩ c.ty c.bits root R.L[p].base R.L[p].bits m c.count.toNat).2:=by
 subst hm;have hob':=(ae0 c).1 hob;obtain ⟨o1,o2⟩:=h.found_ok hf;have hcnt:((c.count.toNat:Nat):Int)=c.count:=by omega
 have hslots:bf R.N nd=bt K nd:=by unfold bt;rw [h.rel.nodes]
 unfold ad_ ld ji;rw [hcnt];by_cases hrm:R.L[p].base+pw R.L[p].bits.toNat<nu (R.L[p].base+R.L[p].mark) (pw c.bits.toNat)+c.count*pw c.bits.toNat
 ·rw [if_pos hrm,if_pos hrm];exact ⟨rfl,h,wg.refl K⟩
 ·rw [if_neg hrm,if_neg hrm];refine ⟨rfl,?_⟩;have hcap:=h.cap _ _ hk;simp only [KCap.base,KCap.bits,KCap.mark] at hcap;obtain ⟨c1,c2,c3,c4,c5,c6⟩:=hcap;have hpos:=lq c.bits.toNat;have halg:c.ty=4->nu (R.L[p].base+R.L[p].mark) (pw c.bits.toNat) % 16=0:=ba8 hob'.1;have hge:=ai0 (R.L[p].base+R.L[p].mark) (pw c.bits.toNat) (by omega);generalize hst:nu (R.L[p].base+R.L[p].mark) (pw c.bits.toNat)=st at hrm hge halg ⊢;have hmul:1*pw c.bits.toNat<=c.count*pw c.bits.toNat:=Int.mul_le_mul_of_nonneg_right hob'.2.1 (by omega);have hempty:∀i:Nat,i<c.count.toNat->K.held ⟨nd,ix+i⟩=none:=by
   intro i hi;cases hh:K.held ⟨nd,ix+i⟩ with
   | none=>rfl
   | some x=>
    have:=ao8 (L:=R.L) (n:=nd) (ix:=ix) hi (by rw [<- h.rel.isSome,hh];rfl);rw [hfu] at this;cases this
  have hfne:∀j:Nat,j<c.count.toNat->R.L[p].slot≠⟨nd,ix+j⟩:=by
   intro j hj e;have:=hempty j hj;rw [<- e,hk] at this;cases this
  rw [<- as6 K R.L[p].slot nd ix c.ty c.bits root st (.untyped R.L[p].base R.L[p].bits (st+c.count*pw c.bits.toNat-R.L[p].base)) c.count.toNat hfne];have hC1:=h.setMark hp hk (m':=st+c.count*pw c.bits.toNat-R.L[p].base) (.inl (by omega)) (by omega) (by omega);have hF0:=h.free hk (a:=st) (z:=c.count*pw c.bits.toNat) (by omega) (by omega);have hF1:ah8 {K with held:=upd K.held R.L[p].slot (some (.untyped R.L[p].base R.L[p].bits (st+c.count*pw c.bits.toNat-R.L[p].base)))} R.L[p].slot st (c.count*pw c.bits.toNat):=by
   intro s e hs he;have he':upd K.held R.L[p].slot (some (.untyped R.L[p].base R.L[p].bits (st+c.count*pw c.bits.toNat-R.L[p].base))) s=some e:=he;rw [ae _ _ hs] at he';exact hF0 s e hs he'
  have hp1:p<(R.L.set p {R.L[p] with mark:=st+c.count*pw c.bits.toNat-R.L[p].base}).length:=by simpa using hp
  have hg1:(R.L.set p {R.L[p] with mark:=st+c.count*pw c.bits.toNat-R.L[p].base})[p]'hp1={R.L[p] with mark:=st+c.count*pw c.bits.toNat-R.L[p].base}:=by simp
  have hup:((R.L.set p {R.L[p] with mark:=st+c.count*pw c.bits.toNat-R.L[p].base})[p]'hp1).up=R.L[p].up:=by rw [hg1]
  have hsl:((R.L.set p {R.L[p] with mark:=st+c.count*pw c.bits.toNat-R.L[p].base})[p]'hp1).slot=R.L[p].slot:=by rw [hg1];rfl
  have hall:=hC1.carve hp1 c nd ix st root c.count.toNat hob'.1 (fun i hi=>by
   show upd K.held R.L[p].slot _ _=none;rw [ae _ _ (Ne.symm (hfne i hi))];exact hempty i hi)
   ⟨o1,by show ix+_<=bt K nd;rw [hcnt];omega⟩ (b:=R.L[p].base) (nn:=R.L[p].bits) (m:=st+c.count*pw c.bits.toNat-R.L[p].base) (by rw [hsl];exact ai _ _ _) ⟨by omega,by rw [hcnt];omega⟩ (by rw [hcnt,hsl];exact hF1) halg c.count.toNat (Nat.le_refl _)
  simp only [hup,hsl] at hall;obtain ⟨_,_,_,hD,_,_,_,_,hM⟩:=hall;exact ⟨hD,⟨hM.thr,hM.qs,hM.new⟩⟩
def zk:Option KCap->Int×Int×Int×Int×Int×Int
 | some c=>c.told
 | none=>(0,0,0,0,0,0)
def aj_:Option nw->Slot
 | some x=>x.parent
 | none=>⟨0,0⟩
def pu (K:a_)(s:Slot):ov:=
 ⟨s.node,s.index,(zk (K.held s)).1,(zk (K.held s)).2.1,(zk (K.held s)).2.2.1,(zk (K.held s)).2.2.2.1,(zk (K.held s)).2.2.2.2.1,(zk (K.held s)).2.2.2.2.2,(aj_ (K.st s)).node,(aj_ (K.st s)).index⟩
theorem al7 (L:List aw):∀(k:Nat) (_:k<=L.length),∀i (hi:i<k) (h2:i<(jk L k).length),(jk L k)[i]=a69 L i (L[i]'(by omega))
 | 0,_,i,hi,_=>absurd hi (by omega)
 | k+1,hk,i,hi,h2=>by
  have e:=sx L k (by omega);have hl:=vh L k (by omega);have h3:i<(jk L k++[a69 L k L[k]]).length:=by rw [<- e];exact h2
  have:(jk L (k+1))[i]=(jk L k++[a69 L k L[k]])[i]'h3:=by congr 1
  rw [this];by_cases hik:i<k
  ·rw [List.getElem_append_left (by rw [hl];exact hik)];exact al7 L k (by omega) i hik (by rw [hl];exact hik)
  ·have:i=k:=by omega
   subst this;rw [List.getElem_append_right (by rw [hl];omega)];simp [hl]
theorem yi.caps {R:dq}{K:a_}(h:yi R K){F:Fo}(hF:ii R.L K.st F):F.slots.map (pu K)=jk R.L R.L.length:=by
 have hsl:=hF.slots;have hlen:(F.slots.map (pu K)).length=R.L.length:=by rw [hsl];simp
 apply List.ext_getElem
 ·rw [hlen,vh _ _ (Nat.le_refl _)]
 ·intro i h1 h2;have hi:i<R.L.length:=by rw [<- hlen];exact h1
  rw [al7 R.L R.L.length (Nat.le_refl _) i hi h2];have hs:(F.slots.map (pu K))[i]=pu K R.L[i].slot:=by
   simp only [List.getElem_map];congr 1;have:F.slots[i]'(by simpa using h1)=(R.L.map aw.slot)[i]'(by simpa using hi):=by congr 1
   rw [this];simp
  rw [hs];obtain ⟨c,hc,ht⟩:=h.cap _ (List.getElem_mem hi);have hflat:F.flat 0=(R.L.take i).map aw.key++(R.L[i].slot,R.L[i].up) :: (R.L.drop (i+1)).map aw.key:=by
   rw [<- hF.flat];have:=List.take_append_drop i R.L;conv=>lhs;rw [<- this]
   rw [List.map_append,List.drop_eq_getElem_cons hi];rfl
  obtain ⟨x,hx,hp⟩:=hF.stands.parent hflat;have hpar:x.parent=⟨(par R.L R.L[i].up i).1,(par R.L R.L[i].up i).2⟩:=by
   rcases hp with ⟨e1,e2⟩ | ⟨A1,q,A2,e1,e2,e3⟩
   ·rw [e1,a27 R.L 0 i (by omega) ?_]
    ·exact e2
    ·intro e he;have hm:e.key∈F.flat 0:=by
      rw [<- hF.flat];exact List.mem_map.2 ⟨e,List.mem_of_mem_take he,rfl⟩
     have:=Fo.flat_ge F 0 _ hm;simp only [aw.key] at this;omega
   ·rw [a21 R.L R.L[i].up q i (by omega) A1 A2 e1 e2];exact e3
  unfold pu a69;rw [hc,hx];simp only [zk,aj_,hpar,ht,aw.told];simp only [aw.slot]
def re:List aw:=[⟨0,0,1,0,10,7,0,80,0⟩,⟨0,1,2,0,6,7,0,0,1⟩,⟨0,2,4,64,4,7,0,0,1⟩]
def b3_:Fo:=.node ⟨0,0⟩ (.node ⟨0,1⟩ .nil (.node ⟨0,2⟩ .nil .nil)) .nil
theorem ar5 (s:Slot):kj.held s=if s=⟨0,2⟩ then some (.task 64 4 7) else if s=⟨0,1⟩ then some (.node 0 6 7) else if s=⟨0,0⟩ then some (.untyped 0 10 80) else none:=rfl
theorem ak9 (b:Int):kj.nodes b=if b=0 then some 16 else none:=rfl
theorem a43 (b:Int):kj.thr b=if b=64 then some ⟨1,0,0,0,0⟩ else none:=rfl
theorem a38:kj.st ⟨0,0⟩=some ⟨nowhere,[⟨0,1⟩,⟨0,2⟩]⟩:=rfl
theorem am2:kj.st ⟨0,1⟩=some ⟨⟨0,0⟩,[]⟩:=rfl
theorem ao2:kj.st ⟨0,2⟩=some ⟨⟨0,0⟩,[]⟩:=rfl
theorem bx7:kj.st nowhere=some ⟨⟨0,0⟩,[⟨0,0⟩]⟩:=rfl
theorem bw3 (s:Slot)(h0:s≠⟨0,0⟩)(h1:s≠⟨0,1⟩)(h2:s≠⟨0,2⟩)(hn:s≠nowhere):kj.st s=none:=by
 show addS (addS (addS (fun _=>none) ⟨0,0⟩ nowhere) ⟨0,1⟩ ⟨0,0⟩) ⟨0,2⟩ ⟨0,0⟩ s=none;rw [pf h0 h2,pf h0 h1,pf hn h0]
theorem gx {s:Slot}{c:KCap}(h:kj.held s=some c):(s=⟨0,2⟩/\c=.task 64 4 7)\/(s=⟨0,1⟩/\c=.node 0 6 7)\/(s=⟨0,0⟩/\c=.untyped 0 10 80):=by
 rw [ar5] at h;split at h
 ·rename_i e;exact .inl ⟨e,(Option.some.inj h).symm⟩
 ·split at h
  ·rename_i e;exact .inr (.inl ⟨e,(Option.some.inj h).symm⟩)
  ·split at h
   ·rename_i e;exact .inr (.inr ⟨e,(Option.some.inj h).symm⟩)
   ·cases h
theorem b24 (b:Int):kj.qs b=none:=rfl
theorem ay7:bq ⟨re,[⟨0,6⟩],[⟨64,1,0,0,0,0⟩]⟩ kj []:=by
 have hT:ii re kj.st b3_:=by
  refine ⟨by decide,by decide,by decide,?_,⟨_,bx7,rfl⟩,?_⟩
  ·exact ⟨⟨_,a38,rfl,rfl⟩,⟨⟨_,am2,rfl,rfl⟩,trivial,⟨⟨_,ao2,rfl,rfl⟩,trivial,trivial⟩⟩,trivial⟩
  ·intro s x hx;by_cases h0:s=⟨0,0⟩
   ·left;rw [h0];decide
   ·by_cases h1:s=⟨0,1⟩
    ·left;rw [h1];decide
    ·by_cases h2:s=⟨0,2⟩
     ·left;rw [h2];decide
     ·by_cases hn:s=nowhere
      ·exact .inr hn
      ·rw [bw3 s h0 h1 h2 hn] at hx;cases hx
 have hup:Up kj.st ⟨0,0⟩ ⟨0,1⟩/\Up kj.st ⟨0,0⟩ ⟨0,2⟩:=⟨.one (by decide) am2 rfl,.one (by decide) ao2 rfl⟩;refine ⟨⟨?_,?_,⟨b3_,hT⟩,?_,?_⟩,⟨?_,?_⟩,?_,(fun d hd=>by cases hd),by decide,?_,?_,?_,?_,?_,?_,?_,by decide,by decide,?_,?_,?_,(fun d hd=>by cases hd)⟩
 ·intro e he;simp only [re,List.mem_cons,List.not_mem_nil,or_false] at he;rcases he with rfl | rfl | rfl
  ·exact ⟨_,rfl,rfl⟩
  ·exact ⟨_,rfl,rfl⟩
  ·exact ⟨_,rfl,rfl⟩
 ·intro s hs;rw [ar5];rw [if_neg (fun e=>hs ⟨0,2,4,64,4,7,0,0,1⟩ (by simp [re]) e.symm),if_neg (fun e=>hs ⟨0,1,2,0,6,7,0,0,1⟩ (by simp [re]) e.symm),
   if_neg (fun e=>hs ⟨0,0,1,0,10,7,0,80,0⟩ (by simp [re]) e.symm)]
 ·intro b;rw [ak9];by_cases e:b=0
  ·rw [e];decide
  ·rw [if_neg e];simp [bf,au,Ne.symm e]
 ·intro b;rw [a43];by_cases e:b=64
  ·rw [e];rfl
  ·rw [if_neg e];simp [af,Ne.symm e]
 ·intro s x c d hsn hx hc hd;rcases gx hc with ⟨rfl,rfl⟩ | ⟨rfl,rfl⟩ | ⟨rfl,rfl⟩
  ·rw [ao2] at hx;cases hx
   rcases gx hd with ⟨e,_⟩ | ⟨e,_⟩ | ⟨_,rfl⟩
   ·simp at e
   ·simp at e
   ·show _/\_;decide
  ·rw [am2] at hx;cases hx
   rcases gx hd with ⟨e,_⟩ | ⟨e,_⟩ | ⟨_,rfl⟩
   ·simp at e
   ·simp at e
   ·show _/\_;decide
  ·rw [a38] at hx;cases hx
   rcases gx hd with ⟨e,_⟩ | ⟨e,_⟩ | ⟨e,_⟩<;>simp [nowhere] at e
 ·intro s t c d hst hc hd;rcases gx hc with ⟨rfl,rfl⟩ | ⟨rfl,rfl⟩ | ⟨rfl,rfl⟩<;>rcases gx hd with ⟨rfl,rfl⟩ | ⟨rfl,rfl⟩ | ⟨rfl,rfl⟩
  ·exact absurd rfl hst
  ·left;show _\/_;decide
  ·exact .inr (.inr (.inr ⟨rfl,hup.2⟩))
  ·left;show _\/_;decide
  ·exact absurd rfl hst
  ·exact .inr (.inr (.inr ⟨rfl,hup.1⟩))
  ·exact .inr (.inr (.inl ⟨rfl,hup.2⟩))
  ·exact .inr (.inr (.inl ⟨rfl,hup.1⟩))
  ·exact absurd rfl hst
 ·intro s c h;rcases gx h with ⟨rfl,_⟩ | ⟨rfl,_⟩ | ⟨rfl,_⟩<;>exact ⟨by decide,.inl (by decide)⟩
 ·intro b x h;rw [ak9] at h;split at h
  ·rename_i e;cases h;subst e;exact ⟨by decide,by decide,by decide,⟨0,1⟩,6,7,rfl⟩
  ·cases h
 ·intro s c h;rcases gx h with ⟨_,rfl⟩ | ⟨_,rfl⟩ | ⟨_,rfl⟩<;>decide
 ·intro s b n r h;rcases gx h with ⟨_,e⟩ | ⟨_,e⟩ | ⟨_,e⟩<;>cases e;exact ⟨by decide,by decide,rfl⟩
 ·intro b t h;rw [a43] at h;split at h
  ·rename_i e;subst e;exact ⟨⟨0,2⟩,4,7,rfl⟩
  ·cases h
 ·intro s b n r h;rcases gx h with ⟨_,e⟩ | ⟨_,e⟩ | ⟨_,e⟩<;>cases e;exact ⟨_,rfl⟩
 ·intro b q h;rw [b24] at h;cases h
 ·intro s b n r g h;rcases gx h with ⟨_,e⟩ | ⟨_,e⟩ | ⟨_,e⟩<;>cases e
 ·intro l hl;simp at hl;subst hl;decide
 ·intro l hl;simp at hl;subst hl;decide
 ·intro s c h;rcases gx h with ⟨_,rfl⟩ | ⟨_,rfl⟩ | ⟨_,rfl⟩<;>decide
structure Wt where
 endp:Int
 thread:Int
 send:Bool
 value:Int
 badge:Int
def Wt.w (x:Wt):dx:=⟨x.thread,x.value,x.badge⟩
def side (s:Bool)(b:Int)(q:List Wt):List dx:=(q.filter (fun w=>w.endp==b && w.send==s)).map Wt.w
structure yj (q:List Wt)(K:a_):Prop where
 qs:∀b y,K.qs b=some y->y=(side true b q,side false b q)
 en:∀w∈q,∃y,K.qs w.endp=some y
 th:∀w∈q,∃t,K.thr w.thread=some t/\t.state≠1
 nd:(q.map Wt.thread).Nodup
theorem as5 {q:List Wt}{b:Int}(h:∀w∈q,w.endp≠b)(s:Bool):side s b q=[]:=by
 unfold side;rw [List.filter_eq_nil_iff.2 (fun w hw e=>by simp only [Bool.and_eq_true,beq_iff_eq] at e;exact h w hw e.1)];rfl
theorem yj.more {q:List Wt}{K K':a_}(h:yj q K)(g:wg K K'):yj q K':=by
 refine ⟨fun b y e=>?_,fun w hw=>?_,fun w hw=>?_,h.nd⟩
 ·rcases g.new b y e with e1 | ⟨e1,e2⟩
  ·exact h.qs b y e1
  ·have:∀w∈q,w.endp≠b:=fun w hw e3=>by obtain ⟨z,hz⟩:=h.en w hw;rw [e3,e1] at hz;cases hz
   rw [e2,as5 this,as5 this]
 ·obtain ⟨y,hy⟩:=h.en w hw;exact ⟨y,g.qs _ _ hy⟩
 ·obtain ⟨t,ht,hs⟩:=h.th w hw;exact ⟨t,g.thr _ _ ht,hs⟩
theorem yj.same {q:List Wt}{K K':a_}(h:yj q K)(hq:K'.qs=K.qs)(ht:∀b t,K.thr b=some t->t.state≠1->∃t',K'.thr b=some t'/\t'.state≠1):yj q K':=
 ⟨by rw [hq];exact h.qs,by rw [hq];exact h.en,fun w hw=>by obtain ⟨t,e1,e2⟩:=h.th w hw;exact ht _ _ e1 e2,h.nd⟩
def k_ (b:Int)(q:List Wt):List Wt:=q.filter (fun w=>w.thread≠b)
theorem ac5 (s:Bool)(e b:Int)(q:List Wt):side s e (k_ b q)=(side s e q).filter (fun w=>w.thread≠b):=by
 unfold side k_;rw [List.filter_filter,List.filter_map,List.filter_filter];congr 1;apply List.filter_congr;intro w _;simp only [Function.comp,Wt.w,Bool.and_comm];rfl
theorem ak0 {b:Int}{q:List Wt}(h:(q.map Wt.thread).Nodup):((k_ b q).map Wt.thread).Nodup:=(List.filter_sublist.map _).nodup h
theorem yj.ended {q:List Wt}{K:a_}(h:yj q K)(b:Int){K':a_}(hq:K'.qs=fun e=>(K.qs e).map (fun y=>(y.1.filter (fun w=>w.thread≠b),y.2.filter (fun w=>w.thread≠b))))(ht:∀x,x≠b->K'.thr x=K.thr x):
 yj (k_ b q) K':=by
 refine ⟨fun e y hy=>?_,fun w hw=>?_,fun w hw=>?_,ak0 h.nd⟩
 ·rw [hq] at hy;cases hk:K.qs e with
  | none=>simp [hk] at hy
  | some z=>
   simp only [hk,Option.map_some,Option.some.injEq] at hy;rw [<- hy,h.qs e z hk,ac5,ac5]
 ·obtain ⟨y,hy⟩:=h.en w (List.mem_filter.1 hw).1;exact ⟨_,by rw [hq];simp only [hy,Option.map_some];rfl⟩
 ·obtain ⟨h1,h2⟩:=List.mem_filter.1 hw;obtain ⟨t,e1,e2⟩:=h.th w h1;exact ⟨t,by rw [ht _ (by simpa using h2)];exact e1,e2⟩
def setT (x:Int)(f:ej->ej):List ej->List ej
 | []=>[]
 | t :: T=>if af x t then f t :: T else t :: setT x f T
theorem qt (x:Int)(f:ej->ej)(hf:∀t,(f t).base=t.base):∀T:List ej,(setT x f T).map ej.base=T.map ej.base
 | []=>rfl
 | t :: T=>by
  unfold setT;split
  ·simp [hf]
  ·simp [qt x f hf T]
theorem ad8 (x:Int)(f:ej->ej)(hf:∀t,(f t).base=t.base)(y:Int):∀T:List ej,(setT x f T).find? (af y)=if y=x then (T.find? (af x)).map f else T.find? (af y)
 | []=>by simp [setT]
 | t :: T=>by
  have e1:∀z,af z (f t)=af z t:=fun z=>by unfold af;rw [hf]
  unfold setT;by_cases h:af x t=true
  ·rw [if_pos h];by_cases e:y=x
   ·subst e;rw [if_pos rfl,List.find?_cons_of_pos (by rw [e1];exact h),List.find?_cons_of_pos h];rfl
   ·have h2:¬af y t=true:=fun h3=>e (by simp only [af,beq_iff_eq] at h h3;rw [<- h3,h])
    rw [if_neg e,List.find?_cons_of_neg (by rw [e1];exact h2),List.find?_cons_of_neg h2]
  ·rw [if_neg h];by_cases h2:af y t=true
   ·have e:y≠x:=fun e=>h (by rw [<- e];exact h2)
    rw [List.find?_cons_of_pos h2,if_neg e,List.find?_cons_of_pos h2]
   ·rw [List.find?_cons_of_neg h2,ad8 x f hf y T,List.find?_cons_of_neg h,List.find?_cons_of_neg h2]
theorem al6 {x:Int}{f:ej->ej}:∀{A:List ej} {t:ej} {B:List ej},(∀a∈A,af x a=false)->af x t=true->setT x f (A++t :: B)=A++f t :: B
 | [],t,B,_,h=>by simp [setT,h]
 | a :: A,t,B,hA,h=>by
  simp only [List.cons_append,setT,hA a (by simp),Bool.false_eq_true,if_false];rw [al6 (fun z hz=>hA z (by simp [hz])) h]
def a33 (t:ej):ej:={t with state:=1,value:=0,badge:=0,err:=9}
def jc (b:Int)(x:List ej×List Wt)(w:Wt):List ej×List Wt:=if w.endp=b then (setT w.thread a33 x.1,k_ w.thread x.2) else x
theorem xo (b:Int):∀(l:List Wt) (x:List ej×List Wt),(l.foldl (jc b) x).1.map ej.base=x.1.map ej.base
 | [],_=>rfl
 | w :: l,x=>by
  rw [List.foldl_cons,xo b l];unfold jc;split
  ·exact qt w.thread a33 (fun _=>rfl) _
  ·rfl
def lf (b:Int)(l:List Wt)(x:Int):Prop:=∃w∈l,w.endp=b/\w.thread=x
open Classical in
theorem aq2 (b y:Int):∀(l:List Wt) (x:List ej×List Wt),(l.foldl (jc b) x).1.find? (af y)=if lf b l y then (x.1.find? (af y)).map a33 else x.1.find? (af y)
 | [],x=>by rw [if_neg (by rintro ⟨w,hw,_⟩;cases hw)];rfl
 | w :: l,x=>by
  rw [List.foldl_cons,aq2 b y l];have hcons:lf b (w :: l) y ↔ (w.endp=b/\w.thread=y)\/lf b l y:=by
   unfold lf;simp only [List.mem_cons,exists_eq_or_imp]
  unfold jc;by_cases e:w.endp=b
  ·rw [if_pos e];simp only;rw [ad8 w.thread a33 (fun _=>rfl)];by_cases e2:y=w.thread
   ·subst e2;rw [if_pos rfl,if_pos (hcons.2 (.inl ⟨e,rfl⟩))];split
    ·cases x.1.find? (af w.thread)<;>rfl
    ·rfl
   ·rw [if_neg e2];by_cases e3:lf b l y
    ·rw [if_pos e3,if_pos (hcons.2 (.inr e3))]
    ·rw [if_neg e3,if_neg (fun h=>by rcases hcons.1 h with ⟨_,h1⟩ | h1;exact e2 h1.symm;exact e3 h1)]
  ·rw [if_neg e];by_cases e3:lf b l y
   ·rw [if_pos e3,if_pos (hcons.2 (.inr e3))]
   ·rw [if_neg e3,if_neg (fun h=>by rcases hcons.1 h with ⟨h1,_⟩ | h1;exact e h1;exact e3 h1)]
theorem a6_ (b:Int)(v:Wt):∀(l:List Wt) (x:List ej×List Wt),v∈(l.foldl (jc b) x).2 ↔ v∈x.2/\¬lf b l v.thread
 | [],x=>by simp [lf]
 | w :: l,x=>by
  have hcons:lf b (w :: l) v.thread ↔ (w.endp=b/\w.thread=v.thread)\/lf b l v.thread:=by
   unfold lf;simp only [List.mem_cons,exists_eq_or_imp]
  rw [List.foldl_cons,a6_ b v l,hcons];unfold jc;by_cases e:w.endp=b
  ·rw [if_pos e];simp only [k_,List.mem_filter,decide_eq_true_eq];constructor
   ·rintro ⟨⟨h1,h2⟩,h3⟩;exact ⟨h1,by rintro (⟨_,h4⟩ | h4);exact h2 h4.symm;exact h3 h4⟩
   ·rintro ⟨h1,h2⟩;exact ⟨⟨h1,fun h3=>h2 (.inl ⟨e,h3.symm⟩)⟩,fun h3=>h2 (.inr h3)⟩
  ·rw [if_neg e];constructor
   ·rintro ⟨h1,h2⟩;exact ⟨h1,by rintro (⟨h4,_⟩ | h4);exact e h4;exact h2 h4⟩
   ·rintro ⟨h1,h2⟩;exact ⟨h1,fun h3=>h2 (.inr h3)⟩
theorem wq (b:Int):∀(l:List Wt) (x:List ej×List Wt),∃p:Wt->Bool,(l.foldl (jc b) x).2=x.2.filter p
 | [],x=>⟨fun _=>true,by rw [List.foldl_nil,List.filter_eq_self.2 (fun _ _=>rfl)]⟩
 | w :: l,x=>by
  obtain ⟨p,hp⟩:=wq b l (jc b x w);rw [List.foldl_cons,hp];unfold jc;split
  ·refine ⟨fun a=>p a && decide (a.thread≠w.thread),?_⟩
   simp only [k_];rw [List.filter_filter]
  ·exact ⟨p,rfl⟩
theorem at4 {α:Type}{p r:α->Bool}{l:List α}(h:∀v,v∈l.filter p ↔ v∈l/\r v=true):l.filter p=l.filter r:=by
 apply List.filter_congr;intro v hv;have:=h v;simp only [List.mem_filter,hv,true_and] at this;cases h1:p v<;>cases h2:r v<;>simp [h1,h2] at this<;>rfl
theorem sy:∀{q:List Wt},(q.map Wt.thread).Nodup->∀{v w:Wt},v∈q->w∈q->v.thread=w.thread->v=w
 | [],_,_,_,hv,_,_=>by cases hv
 | a :: q,h,v,w,hv,hw,e=>by
  rw [List.map_cons,List.nodup_cons] at h;rcases List.mem_cons.1 hv with rfl | hv'
  ·rcases List.mem_cons.1 hw with rfl | hw'
   ·rfl
   ·exact absurd (List.mem_map.2 ⟨w,hw',e.symm⟩) h.1
  ·rcases List.mem_cons.1 hw with rfl | hw'
   ·exact absurd (List.mem_map.2 ⟨v,hv',e⟩) h.1
   ·exact sy h.2 hv' hw' e
theorem bi4 {b:Int}{q:List Wt}(h:(q.map Wt.thread).Nodup)(T:List ej):(q.foldl (jc b) (T,q)).2=q.filter (fun w=>w.endp≠b):=by
 obtain ⟨p,hp⟩:=wq b q (T,q);rw [hp];apply at4;intro v;have h1:=a6_ b v q (T,q);rw [hp] at h1;rw [h1];constructor
 ·rintro ⟨h2,h3⟩;exact ⟨h2,by simp only [ne_eq,decide_not,Bool.not_eq_true',decide_eq_false_iff_not];exact fun e=>h3 ⟨v,h2,e,rfl⟩⟩
 ·rintro ⟨h2,h3⟩;refine ⟨h2,?_⟩;rintro ⟨w,hw,e1,e2⟩;have:=sy h hw h2 e2;subst this;simp [e1] at h3
theorem bq.fewT {R:dq}{K:a_}{D:List (Int×Int)}(h:bq R K D){l:List Int}(hn:l.Nodup)(hl:∀x∈l,∃t,K.thr x=some t):l.length<=64:=by
 have hx:∀x∈l,0<=x/\x<1024/\x % 16=0:=fun x hx=>by
  obtain ⟨t,ht⟩:=hl x hx;rw [h.rel.thr x] at ht;cases hf:R.T.find? (af x) with
  | none=>rw [hf] at ht;cases ht
  | some y=>
   have h1:=h.tb y (List.mem_of_find?_eq_some hf);have h2:=List.find?_some hf;simp only [af,beq_iff_eq] at h2;rw [h2] at h1;exact h1
 have:=am3 64 (l.map (fun x=>(x / 16).toNat)) ?_ ?_
 ·simpa using this
 ·rw [List.nodup_iff_pairwise_ne,List.pairwise_map];refine List.Pairwise.imp_of_mem ?_ (List.nodup_iff_pairwise_ne.1 hn);intro a b ha hb hab e;have:=hx a ha;have:=hx b hb;apply hab;omega
 ·intro y hy;obtain ⟨x,h1,rfl⟩:=List.mem_map.1 hy;have:=hx x h1;omega
theorem ac8 (s:Bool)(b:Int)(q:List Wt):(side s b q).length<=q.length:=by
 unfold side;rw [List.length_map];exact List.length_filter_le _ _
theorem yj.few {R:dq}{K:a_}{D:List (Int×Int)}{q:List Wt}(h:yj q K)(hC:bq R K D):q.length<=64:=by
 have:=hC.fewT h.nd (fun x hx=>by
  obtain ⟨w,hw,rfl⟩:=List.mem_map.1 hx;obtain ⟨t,ht,_⟩:=h.th w hw;exact ⟨t,ht⟩)
 simpa using this
theorem yj.room {R:dq}{K:a_}{D:List (Int×Int)}{q:List Wt}(h:yj q K)(hC:bq R K D){x:Int}{t:oz}(ht:K.thr x=some t)(hs:t.state=1):x∉q.map Wt.thread/\q.length<64:=by
 have hx:x∉q.map Wt.thread:=fun e=>by
  obtain ⟨w,hw,e1⟩:=List.mem_map.1 e;obtain ⟨t',h1,h2⟩:=h.th w hw;rw [e1,ht] at h1;cases h1;exact h2 hs
 refine ⟨hx,?_⟩;have:=hC.fewT (l:=x :: q.map Wt.thread) (List.nodup_cons.2 ⟨hx,h.nd⟩) (fun y hy=>by
  rcases List.mem_cons.1 hy with rfl | hy
  ·exact ⟨t,ht⟩
  ·obtain ⟨w,hw,rfl⟩:=List.mem_map.1 hy;obtain ⟨t',h1,_⟩:=h.th w hw;exact ⟨t',h1⟩)
 simp at this;omega
def setThr (K:a_)(b:Int)(t:oz):a_:={K with thr:=upd K.thr b (some t)}
def gy (K:a_)(b:Int):oz:=(K.thr b).getD ⟨0,0,0,0,0⟩
end Go.Proofs.YtdpjgflemddekaaGreatDoor

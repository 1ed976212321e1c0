/- What is taken away, and what is doomed, as plain functions: the document's and the code's. Nothing of the program's text. -/
import Derived.Test.YtdpjgflemddekaaGreatDoorMInvB
namespace Go.Proofs.YtdpjgflemddekaaGreatDoor
structure RS where
 R:dq
 D:List (Int×Int)
 ws:Nat->Int
 q:List Wt
def qd (ty b:Int)(e:aw):Bool:=e.ty==ty && e.base==b
def fl (b:Int)(t:ej):ej:=if t.root=b then {t with root:=-1} else t
def jd (S:RS)(ty b bits:Int):RS:=
 if ty=2 then {S with R:={S.R with N:=S.R.N.filter (fun l=>!au b l),T:=S.R.T.map (fl b)},D:=S.D++[(b,pw (bits-2).toNat)]}
 else if ty=3 then {S with R:={S.R with T:=(S.q.foldl (jc b) (S.R.T,S.q)).1},q:=(S.q.foldl (jc b) (S.R.T,S.q)).2}
 else if ty=4 then {S with R:={S.R with T:=S.R.T.filter (fun t=>!af b t)},q:=k_ b S.q}
 else S
def ik (S:RS)(i:Nat)(e:aw):RS:=
 if (d_ S.R.L i e.up).any (qd e.ty e.base) then {S with R:={S.R with L:=d_ S.R.L i e.up}}
 else jd {S with R:={S.R with L:=d_ S.R.L i e.up}} e.ty e.base e.bits
def n_ (S:RS)(n i:Int):RS:=
 match S.R.L.findIdx? (ee n i) with
 | none=>S
 | some p=>match S.R.L[p]? with
  | none=>S
  | some e=>ik S p e
def cg (S:RS):RS:=
 match S.D.getLast? with
 | none=>S
 | some (nd,left)=>if left=0 then {S with D:=S.D.dropLast} else n_ {S with D:=S.D.dropLast++[(nd,left-1)]} nd (left-1)
def ao {σ:Type}(step:σ->σ)(done:σ->Bool):Nat->σ->List Bool->σ×List Bool×Bool
 | 0,S,bs=>(S,bs,true)
 | n+1,S,bs=>if done S then (S,bs,true) else
  match bs with
  | []=>ao step done n (step S) []
  | b :: r=>if b then (step S,r,false) else ao step done n (step S) r
def xx {σ:Type}(step:σ->σ)(done:σ->Bool):Nat->σ->Prop
 | 0,S=>done S=true
 | n+1,S=>done S=true\/xx step done n (step S)
def df (S:RS):Bool:=S.D.isEmpty
structure KS where
 K:a_
 D:List (Int×Int)
def bz (S:KS):Bool:=S.D.isEmpty
def yg (K:a_)(ty b:Int):Prop:=∃s c,K.held s=some c/\c.ty=ty/\c.base=b
def l_ (b:Int)(t:oz):oz:=if t.root=b then {t with root:=-1} else t
def wo (T:Int->Option oz)(w:dx):Int->Option oz:=upd T w.thread (some ⟨1,((T w.thread).getD ⟨0,0,0,0,0⟩).root,0,0,9⟩)
def ao7 (b:Int)(q:List dx×List dx):List dx×List dx:=(q.1.filter (fun w=>w.thread≠b),q.2.filter (fun w=>w.thread≠b))
def aj3 (K:a_)(b:Int):a_:={K with nodes:=upd K.nodes b none,thr:=fun t=>(K.thr t).map (l_ b)}
def a88 (K:a_)(b:Int):a_:={K with thr:=upd K.thr b none,qs:=fun e=>(K.qs e).map (ao7 b)}
def iu (K:a_)(b:Int):a_:={K with qs:=upd K.qs b none,thr:=(((K.qs b).getD ([],[])).1++((K.qs b).getD ([],[])).2).foldl wo K.thr}
def bs5 (S:KS)(c:KCap):KS:=
 match c with
 | .node b _ _=>⟨aj3 S.K b,S.D++[(b,bt S.K b)]⟩
 | .task b _ _=>⟨a88 S.K b,S.D⟩
 | .endpoint b _ _ _=>⟨iu S.K b,S.D⟩
 | _=>S
def mo (K:a_)(s:Slot):a_:={K with held:=upd K.held s none,st:=fm K.st s}
open Classical in
noncomputable def iz (S:KS)(s:Slot):KS:=
 match S.K.held s with
 | none=>S
 | some c=>if yg (mo S.K s) c.ty c.base then ⟨mo S.K s,S.D⟩ else bs5 ⟨mo S.K s,S.D⟩ c
theorem zh {S:KS}{s:Slot}{c:KCap}(hc:S.K.held s=some c)(hh:yg (mo S.K s) c.ty c.base):iz S s=⟨mo S.K s,S.D⟩:=by
 unfold iz;rw [hc];simp only;rw [if_pos hh]
theorem ms {S:KS}{s:Slot}{c:KCap}(hc:S.K.held s=some c)(hh:¬yg (mo S.K s) c.ty c.base):iz S s=bs5 ⟨mo S.K s,S.D⟩ c:=by
 unfold iz;rw [hc];simp only;rw [if_neg hh]
theorem zd {S:KS}{s:Slot}(hc:S.K.held s=none):iz S s=S:=by
 unfold iz;rw [hc]
noncomputable def bh (S:KS):KS:=
 match S.D.getLast? with
 | none=>S
 | some (nd,left)=>if left=0 then {S with D:=S.D.dropLast} else iz {S with D:=S.D.dropLast++[(nd,left-1)]} ⟨nd,left-1⟩
structure Ag (S:RS)(S':KS):Prop where
 core:bq S.R S'.K S.D
 d:S'.D=S.D
 ws:∀i,i<1024->S.ws i=S'.K.ws i
 q:yj S.q S'.K
theorem az2 {N:List pp}{b x:Int}(h:x≠b):(N.filter (fun l=>!au b l)).find? (au x)=N.find? (au x):=by
 induction N with
 | nil=>rfl
 | cons l N ih=>
  by_cases h1:au b l=true
  ·have h2:au x l=false:=by
    simp only [au,beq_iff_eq] at h1;simp only [au,h1,beq_eq_false_iff_ne];exact Ne.symm h
   rw [List.filter_cons_of_neg (by simp [h1]),ih,List.find?_cons_of_neg (by simp [h2])]
  ·rw [List.filter_cons_of_pos (by simpa using h1)];by_cases h2:au x l=true
   ·rw [List.find?_cons_of_pos h2,List.find?_cons_of_pos h2]
   ·rw [List.find?_cons_of_neg h2,List.find?_cons_of_neg h2,ih]
theorem ae_ {N:List pp}{b:Int}:(N.filter (fun l=>!au b l)).find? (au b)=none:=by
 rw [List.find?_eq_none];intro x hx h;have:=(List.mem_filter.1 hx).2;simp [h] at this
theorem au6 {N:List ej}{b x:Int}(h:x≠b):(N.filter (fun l=>!af b l)).find? (af x)=N.find? (af x):=by
 induction N with
 | nil=>rfl
 | cons l N ih=>
  by_cases h1:af b l=true
  ·have h2:af x l=false:=by
    simp only [af,beq_iff_eq] at h1;simp only [af,h1,beq_eq_false_iff_ne];exact Ne.symm h
   rw [List.filter_cons_of_neg (by simp [h1]),ih,List.find?_cons_of_neg (by simp [h2])]
  ·rw [List.filter_cons_of_pos (by simpa using h1)];by_cases h2:af x l=true
   ·rw [List.find?_cons_of_pos h2,List.find?_cons_of_pos h2]
   ·rw [List.find?_cons_of_neg h2,List.find?_cons_of_neg h2,ih]
theorem ab9 {N:List ej}{b:Int}:(N.filter (fun l=>!af b l)).find? (af b)=none:=by
 rw [List.find?_eq_none];intro x hx h;have:=(List.mem_filter.1 hx).2;simp [h] at this
theorem vg (b:Int)(t:ej):(fl b t).base=t.base:=by unfold fl;split<;>rfl
theorem a06 (b:Int)(t:ej):(fl b t).thd=l_ b t.thd:=by unfold fl l_ ej.thd;split<;>rfl
theorem at3 (b x:Int):∀T:List ej,(T.map (fl b)).find? (af x)=(T.find? (af x)).map (fl b)
 | []=>rfl
 | t :: T=>by
  have e:af x (fl b t)=af x t:=by unfold af;rw [vg]
  rw [List.map_cons];by_cases h:af x t=true
  ·rw [List.find?_cons_of_pos (by rw [e];exact h),List.find?_cons_of_pos h];rfl
  ·rw [List.find?_cons_of_neg (by rw [e];exact h),List.find?_cons_of_neg h,at3 b x T]
theorem as2:∀(l:List dx) (T:Int->Option oz) (x:Int),(l.foldl wo T) x=if x∈l.map dx.thread then some ⟨1,((T x).getD ⟨0,0,0,0,0⟩).root,0,0,9⟩ else T x
 | [],_,_=>rfl
 | w :: l,T,x=>by
  rw [List.foldl_cons,as2 l];unfold wo;by_cases e:x=w.thread
  ·subst e;rw [ai,if_pos (by simp:w.thread∈(w :: l).map dx.thread)];split<;>rfl
  ·rw [ae _ _ e];by_cases e2:x∈l.map dx.thread
   ·rw [if_pos e2,if_pos (by simp only [List.map_cons,List.mem_cons];exact .inr e2)]
   ·rw [if_neg e2,if_neg (by simp only [List.map_cons,List.mem_cons,not_or];exact ⟨e,e2⟩)]
theorem at2 {b:Int}{q:List Wt}{x:Int}:x∈(side true b q++side false b q).map dx.thread ↔ lf b q x:=by
 simp only [side,List.map_append,List.map_map,List.mem_append,List.mem_map,List.mem_filter,Function.comp,Wt.w,Bool.and_eq_true,beq_iff_eq,lf];constructor
 ·rintro (⟨w,⟨h1,h2,_⟩,h3⟩ | ⟨w,⟨h1,h2,_⟩,h3⟩)<;>exact ⟨w,h1,h2,h3⟩
 ·rintro ⟨w,h1,h2,h3⟩;cases hs:w.send with
  | true=>exact .inl ⟨w,⟨h1,h2,hs⟩,h3⟩
  | false=>exact .inr ⟨w,⟨h1,h2,hs⟩,h3⟩
open Classical in
theorem yj.abThr {q:List Wt}{K:a_}(h:yj q K){b:Int}{y:List dx×List dx}(hb:K.qs b=some y)(x:Int):
 (iu K b).thr x=if lf b q x then some ⟨1,((K.thr x).getD ⟨0,0,0,0,0⟩).root,0,0,9⟩ else K.thr x:=by
 show ((((K.qs b).getD ([],[])).1++((K.qs b).getD ([],[])).2).foldl wo K.thr) x=_;rw [as2,hb,h.qs b y hb];simp only [Option.getD_some];by_cases e:lf b q x
 ·rw [if_pos (at2.2 e),if_pos e]
 ·rw [if_neg (fun g=>e (at2.1 g)),if_neg e]
theorem yj.abSome {q:List Wt}{K:a_}(h:yj q K){b:Int}{y:List dx×List dx}(hb:K.qs b=some y)(x:Int):(∃t,(iu K b).thr x=some t) ↔ ∃t,K.thr x=some t:=by
 rw [h.abThr hb];by_cases e:lf b q x
 ·rw [if_pos e];obtain ⟨w,hw,_,rfl⟩:=e;obtain ⟨t,ht,_⟩:=h.th w hw;exact ⟨fun _=>⟨t,ht⟩,fun _=>⟨_,rfl⟩⟩
 ·rw [if_neg e]
theorem yj.abandoned {q:List Wt}{K:a_}(h:yj q K){b:Int}{y:List dx×List dx}(hb:K.qs b=some y)(T:List ej):yj (q.foldl (jc b) (T,q)).2 (iu K b):=by
 rw [bi4 h.nd];have hq:(iu K b).qs=upd K.qs b none:=rfl;refine ⟨fun e z hz=>?_,fun w hw=>?_,fun w hw=>?_,(List.filter_sublist.map _).nodup h.nd⟩
 ·rw [hq] at hz;have hne:e≠b:=fun e1=>by rw [e1,ai] at hz;cases hz
  rw [ae _ _ hne] at hz;rw [h.qs e z hz];have:∀s,side s e (q.filter (fun w=>w.endp≠b))=side s e q:=fun s=>by
   unfold side;rw [List.filter_filter];congr 1;apply List.filter_congr;intro w _;by_cases e2:w.endp=e
   ·simp [e2,hne]
   ·simp [e2]
  rw [this,this]
 ·obtain ⟨h1,h2⟩:=List.mem_filter.1 hw;obtain ⟨z,hz⟩:=h.en w h1;exact ⟨z,by rw [hq,ae _ _ (by simpa using h2)];exact hz⟩
 ·obtain ⟨h1,h2⟩:=List.mem_filter.1 hw;obtain ⟨t,e1,e2⟩:=h.th w h1;refine ⟨t,?_,e2⟩;rw [h.abThr hb,if_neg]
  ·exact e1
  ·rintro ⟨v,hv,g1,g2⟩;have:=sy h.nd hv h1 g2;subst this;simp [g1] at h2
open Classical in
theorem yj.abRel {q:List Wt}{K:a_}(h:yj q K){b:Int}{y:List dx×List dx}(hb:K.qs b=some y){T:List ej}(hT:∀x,K.thr x=(T.find? (af x)).map ej.thd)(x:Int):
 (iu K b).thr x=((q.foldl (jc b) (T,q)).1.find? (af x)).map ej.thd:=by
 rw [h.abThr hb,aq2,hT x];by_cases e:lf b q x
 ·rw [if_pos e,if_pos e];obtain ⟨w,hw,_,rfl⟩:=e;obtain ⟨t,ht,_⟩:=h.th w hw;rw [hT] at ht;simp only;cases hf:T.find? (af w.thread) with
  | none=>rw [hf] at ht;cases ht
  | some z=>rfl
 ·rw [if_neg e,if_neg e]
theorem Ag.take {S:RS}{S':KS}(h:Ag S S'){p:Nat}(hp:p<S.R.L.length):Ag (ik S p S.R.L[p]) (iz S' S.R.L[p].slot):=by
 obtain ⟨hC,hD,hws,hQ⟩:=h;obtain ⟨K,D⟩:=S';obtain ⟨R,D',ws,q0⟩:=S;simp only at hC hD hws hQ hp ⊢;subst hD;obtain ⟨c,hc,ht⟩:=hC.rel.cap _ (List.getElem_mem hp);have hty:=qp ht;obtain ⟨hba,hbi,_⟩:=pa ht;generalize hL:d_ R.L p R.L[p].up=L' at *
 have hrel:=hC.rel.take hp;rw [hL] at hrel;obtain ⟨F,hF⟩:=hC.rel.tree;obtain ⟨_,_,_,⟨x,hout⟩,honly⟩:=hF.take hp;generalize hs0:R.L[p].slot=s0 at *
 have hsn:s0≠nowhere:=ml (hC.inN _ _ hc).1;have hgeo:Geo (upd K.held s0 none) (fm K.st s0):=by
  refine hC.geo.take hc hsn hout ?_ (hC.cap _ _ hc).2.2.2.2.2;intro t y htn hy;obtain ⟨h1,h2⟩:=honly t y hy;refine ⟨h1,?_⟩;rcases h2 with h2 | h2
  ·obtain ⟨z,hz,_⟩:=hF.stands.fact hF.nodup t h2;exact ⟨z,hz⟩
  ·exact absurd h2 htn
 have hold:∀s c',upd K.held s0 none s=some c'->s≠s0/\K.held s=some c':=by
  intro s c' h1;by_cases e:s=s0
  ·rw [e,ai] at h1;cases h1
  ·rw [ae _ _ e] at h1;exact ⟨e,h1⟩
 have hkeep:∀s c',s≠s0->K.held s=some c'->upd K.held s0 none s=some c':=fun s c' h1 h2=>by rw [ae _ _ h1];exact h2
 have hany:L'.any (qd R.L[p].ty R.L[p].base)=true ↔ yg (mo K s0) c.ty c.base:=by
  rw [List.any_eq_true];constructor
  ·rintro ⟨e,he,h1⟩;obtain ⟨c',e1,e2⟩:=hrel.cap e he;simp only [qd,Bool.and_eq_true,beq_iff_eq] at h1;exact ⟨e.slot,c',e1,by rw [qp e2,h1.1,hty],by rw [(pa e2).1,h1.2,hba]⟩
  ·rintro ⟨s,c',h1,h2,h3⟩;by_cases hex:∃e∈L',e.slot=s
   ·obtain ⟨e,he,rfl⟩:=hex;obtain ⟨c2,e1,e2⟩:=hrel.cap e he;have:some c2=some c':=e1.symm.trans h1;cases this
    exact ⟨e,he,by simp only [qd,Bool.and_eq_true,beq_iff_eq];exact ⟨by rw [<- qp e2,h2,hty],by rw [<- (pa e2).1,h3,hba]⟩⟩
   ·have:=hrel.emp s (fun e he e1=>hex ⟨e,he,e1⟩);have h1':upd K.held s0 none s=some c':=h1;rw [show upd K.held s0 none s=none from this] at h1';cases h1'
 have hTR:ik ⟨R,D,ws,q0⟩ p R.L[p]=if L'.any (qd R.L[p].ty R.L[p].base) then ⟨{R with L:=L'},D,ws,q0⟩ else jd ⟨{R with L:=L'},D,ws,q0⟩ R.L[p].ty R.L[p].base R.L[p].bits:=by
  unfold ik;simp only [hL]
 have hinN:∀s c',upd K.held s0 none s=some c'->0<=s.index/\(s.index<bt K s.node\/∃d∈D,d.1=s.node/\s.index<d.2):=fun s c' h1=>hC.inN s c' (hold s c' h1).2
 have hcap:=fun s c' (h1:upd K.held s0 none s=some c')=>hC.cap s c' (hold s c' h1).2
 have hrt:=fun s c' (h1:upd K.held s0 none s=some c')=>hC.rt s c' (hold s c' h1).2
 have hdap:=fun d (hd:d∈D) s c' (h1:upd K.held s0 none s=some c') (hu:c'.isU=false)=>hC.dap d hd s c' (hold s c' h1).2 hu
 have hQ0:yj q0 (mo K s0):=hQ.same rfl (fun _ t e1 e2=>⟨t,e1,e2⟩);have hhno:=fun s b n r (h1:upd K.held s0 none s=some (.node b n r))=>hC.hno s b n r (hold s _ h1).2
 have hhth:=fun s b n r (h1:upd K.held s0 none s=some (.task b n r))=>hC.hth s b n r (hold s _ h1).2
 have hhen:=fun s b n r g (h1:upd K.held s0 none s=some (.endpoint b n r g))=>hC.hen s b n r g (hold s _ h1).2
 -- of an object that is not the one taken,a capability is left
 have hnod:∀b y,K.nodes b=some y->(c.ty≠2\/c.base≠b)->∃s n r,upd K.held s0 none s=some (.node b n r):=by
  intro b y hy hne;obtain ⟨_,_,_,s,n,r,g⟩:=hC.nod b y hy;refine ⟨s,n,r,hkeep _ _ (fun e=>?_) g⟩;rw [e,hc] at g;cases g;rcases hne with h1 | h1<;>exact h1 rfl
 have hthd:∀b y,K.thr b=some y->(c.ty≠4\/c.base≠b)->∃s n r,upd K.held s0 none s=some (.task b n r):=by
  intro b y hy hne;obtain ⟨s,n,r,g⟩:=hC.thd b y hy;refine ⟨s,n,r,hkeep _ _ (fun e=>?_) g⟩;rw [e,hc] at g;cases g;rcases hne with h1 | h1<;>exact h1 rfl
 have hque:∀b y,K.qs b=some y->(c.ty≠3\/c.base≠b)->∃s n r g,upd K.held s0 none s=some (.endpoint b n r g):=by
  intro b y hy hne;obtain ⟨s,n,r,q,g⟩:=hC.que b y hy;refine ⟨s,n,r,q,hkeep _ _ (fun e=>?_) g⟩;rw [e,hc] at g;cases g;rcases hne with h1 | h1<;>exact h1 rfl
 rw [hTR];by_cases hh:yg (mo K s0) c.ty c.base
 ·rw [if_pos (hany.2 hh),zh hc hh];refine ⟨⟨hrel,hgeo,hinN,hC.dm,hC.dn,?_,hcap,hhno,?_,hhth,?_,hhen,hC.nd,hC.td,hC.nb,hC.tb,hrt,hdap⟩,rfl,hws,hQ0⟩
  ·intro b y hy;obtain ⟨g1,g2,g3,_⟩:=hC.nod b y hy;refine ⟨g1,g2,g3,?_⟩;by_cases hne:c.ty≠2\/c.base≠b
   ·exact hnod b y hy hne
   ·obtain ⟨s,c',h1,h2,h3⟩:=hh;rw [not_or,Decidable.not_not,Decidable.not_not] at hne;rw [hne.1] at h2;rw [hne.2] at h3;cases c'<;>simp only [KCap.ty] at h2<;>first | omega | skip
    simp only [KCap.base] at h3;subst h3;exact ⟨s,_,_,h1⟩
  ·intro b y hy;by_cases hne:c.ty≠4\/c.base≠b
   ·exact hthd b y hy hne
   ·obtain ⟨s,c',h1,h2,h3⟩:=hh;rw [not_or,Decidable.not_not,Decidable.not_not] at hne;rw [hne.1] at h2;rw [hne.2] at h3;cases c'<;>simp only [KCap.ty] at h2<;>first | omega | skip
    simp only [KCap.base] at h3;subst h3;exact ⟨s,_,_,h1⟩
  ·intro b y hy;by_cases hne:c.ty≠3\/c.base≠b
   ·exact hque b y hy hne
   ·obtain ⟨s,c',h1,h2,h3⟩:=hh;rw [not_or,Decidable.not_not,Decidable.not_not] at hne;rw [hne.1] at h2;rw [hne.2] at h3;cases c'<;>simp only [KCap.ty] at h2<;>first | omega | skip
    simp only [KCap.base] at h3;subst h3;exact ⟨s,_,_,_,h1⟩
 ·rw [if_neg (fun e=>hh (hany.1 e)),ms hc hh]
  rw [<- hty,<- hba,<- hbi];have hnh:∀s c',upd K.held s0 none s=some c'->c'.ty=c.ty->c'.base≠c.base:=fun s c' h1 h2 h3=>hh ⟨s,c',h1,h2,h3⟩
  cases c with
  | untyped b n m=>
   refine ⟨⟨hrel,hgeo,hinN,hC.dm,hC.dn,?_,hcap,hhno,?_,hhth,?_,hhen,hC.nd,hC.td,hC.nb,hC.tb,hrt,hdap⟩,rfl,hws,hQ0⟩
   ·intro b y hy;obtain ⟨g1,g2,g3,_⟩:=hC.nod b y hy;exact ⟨g1,g2,g3,hnod b y hy (.inl (by simp [KCap.ty]))⟩
   ·intro b y hy;exact hthd b y hy (.inl (by simp [KCap.ty]))
   ·intro b y hy;exact hque b y hy (.inl (by simp [KCap.ty]))
  | frame b n m=>
   refine ⟨⟨hrel,hgeo,hinN,hC.dm,hC.dn,?_,hcap,hhno,?_,hhth,?_,hhen,hC.nd,hC.td,hC.nb,hC.tb,hrt,hdap⟩,rfl,hws,hQ0⟩
   ·intro b y hy;obtain ⟨g1,g2,g3,_⟩:=hC.nod b y hy;exact ⟨g1,g2,g3,hnod b y hy (.inl (by simp [KCap.ty]))⟩
   ·intro b y hy;exact hthd b y hy (.inl (by simp [KCap.ty]))
   ·intro b y hy;exact hque b y hy (.inl (by simp [KCap.ty]))
  | endpoint b n r g=>
   obtain ⟨yq,hq⟩:=hC.hen _ _ _ _ _ hc;have hsome:=hQ0.abSome (b:=b) hq;show Ag ⟨{R with L:=L',T:=(q0.foldl (jc b) (R.T,q0)).1},D,ws,(q0.foldl (jc b) (R.T,q0)).2⟩ ⟨iu (mo K s0) b,D⟩;refine ⟨⟨⟨hrel.cap,hrel.emp,hrel.tree,hrel.nodes,hQ0.abRel hq hC.rel.thr⟩,hgeo,hinN,hC.dm,hC.dn,?_,hcap,hhno,?_,?_,?_,?_,hC.nd,?_,hC.nb,?_,hrt,hdap⟩,rfl,hws,hQ0.abandoned hq _⟩
   ·intro b y hy;obtain ⟨g1,g2,g3,_⟩:=hC.nod b y hy;exact ⟨g1,g2,g3,hnod b y hy (.inl (by simp [KCap.ty]))⟩
   ·intro b' y hy;obtain ⟨t0,ht0⟩:=(hsome b').1 ⟨y,hy⟩;exact hthd b' t0 ht0 (.inl (by simp [KCap.ty]))
   ·intro s b' n' r' h1;exact (hsome b').2 (hhth s b' n' r' h1)
   ·intro b' y hy;by_cases e:b'=b
    ·have hy':upd K.qs b none b'=some y:=hy;rw [e,ai] at hy';cases hy'
    ·have hy':upd K.qs b none b'=some y:=hy;rw [ae _ _ e] at hy';exact hque b' y hy' (.inr (by simp only [KCap.base];exact Ne.symm e))
   ·intro s b' n' r' g' h1;have:=hnh s _ h1 rfl;simp only [KCap.base] at this;obtain ⟨z,hz⟩:=hhen _ _ _ _ _ h1;exact ⟨z,by show upd K.qs b none b'=_;rw [ae _ _ this];exact hz⟩
   ·show ((q0.foldl (jc b) (R.T,q0)).1.map ej.base).Nodup;rw [xo];exact hC.td
   ·intro t ht;have:t.base∈(q0.foldl (jc b) (R.T,q0)).1.map ej.base:=List.mem_map.2 ⟨t,ht,rfl⟩;rw [xo] at this;obtain ⟨t',h1,h2⟩:=List.mem_map.1 this;rw [<- h2];exact hC.tb t' h1
  | task b n r=>
   show Ag ⟨{R with L:=L',T:=R.T.filter (fun t=>!af b t)},D,ws,k_ b q0⟩ ⟨a88 (mo K s0) b,D⟩;refine ⟨⟨⟨hrel.cap,hrel.emp,hrel.tree,hrel.nodes,?_⟩,hgeo,hinN,hC.dm,hC.dn,?_,hcap,hhno,?_,?_,?_,?_,hC.nd,?_,hC.nb,?_,hrt,hdap⟩,rfl,hws,hQ0.ended b rfl (fun x hx=>ae _ _ hx)⟩
   ·intro x;show upd K.thr b none x=_;by_cases e:x=b
    ·rw [e,ai,ab9];rfl
    ·rw [ae _ _ e,au6 e];exact hC.rel.thr x
   ·intro b y hy;obtain ⟨g1,g2,g3,_⟩:=hC.nod b y hy;exact ⟨g1,g2,g3,hnod b y hy (.inl (by simp [KCap.ty]))⟩
   ·intro b' y hy;have hy':upd K.thr b none b'=some y:=hy;by_cases e:b'=b
    ·rw [e,ai] at hy';cases hy'
    ·rw [ae _ _ e] at hy';exact hthd b' y hy' (.inr (by simp only [KCap.base];exact Ne.symm e))
   ·intro s b' n' r' h1;have:=hnh s _ h1 rfl;simp only [KCap.base] at this;obtain ⟨t,ht⟩:=hhth _ _ _ _ h1;exact ⟨t,by show upd K.thr b none b'=_;rw [ae _ _ this];exact ht⟩
   ·intro b' y hy;have hy':(K.qs b').map (ao7 b)=some y:=hy;cases hk:K.qs b' with
    | none=>rw [hk] at hy';cases hy'
    | some z=>exact hque b' z hk (.inl (by simp [KCap.ty]))
   ·intro s b' n' r' g' h1;obtain ⟨z,hz⟩:=hhen _ _ _ _ _ h1;exact ⟨ao7 b z,by show (K.qs b').map (ao7 b)=_;rw [hz];rfl⟩
   ·exact (List.filter_sublist.map _).nodup hC.td
   ·intro t ht;exact hC.tb t (List.mem_filter.1 ht).1
  | node b n r=>
   obtain ⟨n3,n6,hnb⟩:=hC.hno _ _ _ _ hc;obtain ⟨q1,q2⟩:=zc n3 n6;have hI:bt K b=pw (n-2).toNat:=by unfold bt;rw [hnb];show pw n.toNat / 4=_;rw [q1];simp [pw]
   obtain ⟨b0,b1,b2,_⟩:=hC.nod b _ hnb;have hpos:=lq (n-2).toNat;have hle:bt K b<=16:=af3 hC b;have hbD:b∉D.map Prod.fst:=by
    intro e;obtain ⟨d,hd,e1⟩:=List.mem_map.1 e;have:=(hC.dm d hd).2.2.2.2;rw [e1,hnb] at this;cases this
   show Ag ⟨{L:=L',N:=R.N.filter (fun l=>!au b l),T:=R.T.map (fl b)},D++[(b,pw (n-2).toNat)],ws,q0⟩ ⟨aj3 (mo K s0) b,D++[(b,bt K b)]⟩;rw [hI];have hdap2:∀d∈D++[(b,pw (n-2).toNat)],∀s c',upd K.held s0 none s=some c'->c'.isU=false->c'.base+pw c'.bits.toNat<=d.1\/d.1+8<=c'.base:=by
    intro d hd s c' h1 hu;rcases List.mem_append.1 hd with h2 | h2
    ·exact hdap d h2 s c' h1 hu
    ·simp at h2;subst h2;obtain ⟨e1,e2⟩:=hold s c' h1;have h8:8<=pw n.toNat:=by
      have:8=pw 3:=rfl;rw [this];exact xt (by omega)
     rcases hC.geo.apart s s0 c' _ e1 e2 hc with g | g | g | g
     ·have g:c'.base+pw c'.bits.toNat<=b\/b+pw n.toNat<=c'.base:=g;rcases g with g | g
      ·exact .inl g
      ·exact .inr (by show b+8<=_;omega)
     ·exact absurd g.2.2.1 (hnh s c' h1 g.2.1)
     ·rw [hu] at g;cases g.1
     ·cases g.1
   refine ⟨⟨⟨hrel.cap,hrel.emp,hrel.tree,?_,?_⟩,hgeo,?_,?_,?_,?_,hcap,?_,?_,?_,?_,hhen,?_,?_,?_,?_,hrt,hdap2⟩,rfl,hws,?_⟩
   ·intro x;show (upd K.nodes b none x).getD 0=bf (R.N.filter (fun l=>!au b l)) x;unfold bf;by_cases e:x=b
    ·rw [e,ai,ae_];rfl
    ·rw [ae _ _ e,az2 e];have:=hC.rel.nodes x;unfold bf at this;exact this
   ·intro x;show (K.thr x).map (l_ b)=_;rw [at3,hC.rel.thr x];cases R.T.find? (af x) with
    | none=>rfl
    | some t=>simp only [Option.map_some,a06]
   ·intro s c' h1;obtain ⟨g1,g2⟩:=hinN s c' h1;refine ⟨g1,?_⟩;rcases g2 with g2 | ⟨d,hd,g2,g3⟩
    ·by_cases e:s.node=b
     ·right;refine ⟨(b,pw (n-2).toNat),by simp,e.symm,?_⟩;show s.index<pw (n-2).toNat;rw [<- hI,<- e];exact g2
     ·left;show s.index<(upd K.nodes b none s.node).getD 0;rw [ae _ _ e];exact g2
    ·exact .inr ⟨d,by simp [hd],g2,g3⟩
   ·intro d hd;rcases List.mem_append.1 hd with h1 | h1
    ·obtain ⟨g1,g2,g3,g4,g5⟩:=hC.dm d h1;refine ⟨g1,g2,g3,g4,?_⟩;show upd K.nodes b none d.1=none;by_cases e:d.1=b
     ·rw [e,ai]
     ·rw [ae _ _ e];exact g5
    ·simp at h1;subst h1;exact ⟨b0,b1,by dsimp only;omega,by dsimp only;omega,ai _ _ _⟩
   ·rw [List.map_append];exact vi hC.dn hbD
   ·intro b' y hy;have hy':upd K.nodes b none b'=some y:=hy;by_cases e:b'=b
    ·rw [e,ai] at hy';cases hy'
    ·rw [ae _ _ e] at hy';obtain ⟨g1,g2,g3,_⟩:=hC.nod b' y hy';exact ⟨g1,g2,g3,hnod b' y hy' (.inr (by simp only [KCap.base];exact Ne.symm e))⟩
   ·intro s b' n' r' h1;have:=hnh s _ h1 rfl;simp only [KCap.base] at this;obtain ⟨g1,g2,g3⟩:=hhno _ _ _ _ h1;exact ⟨g1,g2,by show upd K.nodes b none b'=_;rw [ae _ _ this];exact g3⟩
   ·intro b' y hy;have hy':(K.thr b').map (l_ b)=some y:=hy;cases ht:K.thr b' with
    | none=>rw [ht] at hy';cases hy'
    | some t=>exact hthd b' t ht (.inl (by simp [KCap.ty]))
   ·intro s b' n' r' h1;obtain ⟨t,ht⟩:=hhth _ _ _ _ h1;exact ⟨l_ b t,by show (K.thr b').map (l_ b)=_;rw [ht];rfl⟩
   ·intro b y hy;exact hque b y hy (.inl (by simp [KCap.ty]))
   ·exact (List.filter_sublist.map _).nodup hC.nd
   ·rw [List.map_map,show (ej.base ∘ fl b)=ej.base from by funext t;exact vg b t];exact hC.td
   ·intro l hl;exact hC.nb l (List.mem_filter.1 hl).1
   ·intro t ht;obtain ⟨t',ht',rfl⟩:=List.mem_map.1 ht;rw [vg];exact hC.tb t' ht'
   ·refine hQ0.same rfl (fun x t e1 e2=>⟨l_ b t,?_,?_⟩)
    ·show (K.thr x).map (l_ b)=_;rw [show K.thr x=some t from e1];rfl
    ·unfold l_;split<;>exact e2
theorem b32 (R:dq)(ws:Nat->Int)(q:List Wt)(ty b bits:Int):∃R' ext q',(∀D0,jd ⟨R,D0,ws,q⟩ ty b bits=⟨R',D0++ext,ws,q'⟩)/\R'.L=R.L/\(ext=[]\/ty=2/\ext=[(b,pw (bits-2).toNat)]):=by
 unfold jd;by_cases h:ty=2
 ·exact ⟨{R with N:=R.N.filter (fun l=>!au b l),T:=R.T.map (fl b)},[(b,pw (bits-2).toNat)],q,fun D0=>by rw [if_pos h],rfl,.inr ⟨h,rfl⟩⟩
 ·by_cases h3:ty=3
  ·exact ⟨{R with T:=(q.foldl (jc b) (R.T,q)).1},[],(q.foldl (jc b) (R.T,q)).2,fun D0=>by rw [if_neg h,if_pos h3,List.append_nil],rfl,.inl rfl⟩
  ·by_cases h4:ty=4
   ·exact ⟨{R with T:=R.T.filter (fun t=>!af b t)},[],k_ b q,fun D0=>by rw [if_neg h,if_neg h3,if_pos h4,List.append_nil],rfl,.inl rfl⟩
   ·exact ⟨R,[],q,fun D0=>by rw [if_neg h,if_neg h3,if_neg h4,List.append_nil],rfl,.inl rfl⟩
theorem aw2 (R:dq)(ws:Nat->Int)(q:List Wt)(p:Nat)(e:aw):∃R' ext q',(∀D0,ik ⟨R,D0,ws,q⟩ p e=⟨R',D0++ext,ws,q'⟩)/\R'.L=d_ R.L p e.up/\(ext=[]\/e.ty=2/\ext=[(e.base,pw (e.bits-2).toNat)]):=by
 unfold ik;by_cases h:(d_ R.L p e.up).any (qd e.ty e.base)=true
 ·exact ⟨{R with L:=d_ R.L p e.up},[],q,fun D0=>by simp only;rw [if_pos h,List.append_nil],rfl,.inl rfl⟩
 ·obtain ⟨R',ext,q',h1,h2,h3⟩:=b32 {R with L:=d_ R.L p e.up} ws q e.ty e.base e.bits;exact ⟨R',ext,q',fun D0=>by simp only;rw [if_neg h];exact h1 D0,h2,h3⟩
theorem b23 (K:a_)(s:Slot):∃K' ext,(∀D0,iz ⟨K,D0⟩ s=⟨K',D0++ext⟩)/\(K'.held s=none)/\K'.ws=K.ws:=by
 cases hc:K.held s with
 | none=>exact ⟨K,[],fun D0=>by rw [zd hc,List.append_nil],hc,rfl⟩
 | some c=>
  by_cases hh:yg (mo K s) c.ty c.base
  ·exact ⟨mo K s,[],fun D0=>by rw [zh hc hh,List.append_nil],ai _ _ _,rfl⟩
  ·cases c with
   | untyped b n m=>exact ⟨mo K s,[],fun D0=>by rw [ms hc hh,List.append_nil];rfl,ai _ _ _,rfl⟩
   | frame b n m=>exact ⟨mo K s,[],fun D0=>by rw [ms hc hh,List.append_nil];rfl,ai _ _ _,rfl⟩
   | node b n m=>exact ⟨aj3 (mo K s) b,[(b,bt K b)],fun D0=>by rw [ms hc hh];rfl,ai _ _ _,rfl⟩
   | task b n m=>exact ⟨a88 (mo K s) b,[],fun D0=>by rw [ms hc hh,List.append_nil];rfl,ai _ _ _,rfl⟩
   | endpoint b n m g=>exact ⟨iu (mo K s) b,[],fun D0=>by rw [ms hc hh,List.append_nil];rfl,ai _ _ _,rfl⟩
theorem bq.lower {R:dq}{K:a_}{A E:List (Int×Int)}{nd left:Int}(h:bq R K (A++(nd,left) :: E))(hl:0<left)(he:K.held ⟨nd,left-1⟩=none):bq R K (A++(nd,left-1) :: E):=by
 refine ⟨h.rel,h.geo,?_,?_,?_,h.nod,h.cap,h.hno,h.thd,h.hth,h.que,h.hen,h.nd,h.td,h.nb,h.tb,h.rt,?_⟩
 ·intro s c hs;obtain ⟨g1,g2⟩:=h.inN s c hs;refine ⟨g1,?_⟩;rcases g2 with g2 | ⟨d,hd,g2,g3⟩
  ·exact .inl g2
  ·simp only [List.mem_append,List.mem_cons] at hd;rcases hd with hd | rfl | hd
   ·exact .inr ⟨d,by simp [hd],g2,g3⟩
   ·simp only at g2 g3;refine .inr ⟨(nd,left-1),by simp,g2,?_⟩;show s.index<left-1;by_cases e:s.index=left-1
    ·exfalso
     have:s=⟨nd,left-1⟩:=by cases s;simp only at g2 e;rw [g2,e]
     rw [this,he] at hs;cases hs
    ·omega
   ·exact .inr ⟨d,by simp [hd],g2,g3⟩
 ·intro d hd;simp only [List.mem_append,List.mem_cons] at hd;rcases hd with hd | rfl | hd
  ·exact h.dm d (by simp [hd])
  ·obtain ⟨g1,g2,g3,g4,g5⟩:=h.dm (nd,left) (by simp);exact ⟨g1,g2,by dsimp only at *;omega,by dsimp only at *;omega,g5⟩
  ·exact h.dm d (by simp [hd])
 ·have:=h.dn;simpa using this
 ·intro d hd s c hs hu;simp only [List.mem_append,List.mem_cons] at hd;rcases hd with hd | rfl | hd
  ·exact h.dap d (by simp [hd]) s c hs hu
  ·exact h.dap (nd,left) (by simp) s c hs hu
  ·exact h.dap d (by simp [hd]) s c hs hu
theorem bq.dropD {R:dq}{K:a_}{A:List (Int×Int)}{nd:Int}(h:bq R K (A++[(nd,0)])):bq R K A:=by
 refine ⟨h.rel,h.geo,?_,fun d hd=>h.dm d (by simp [hd]),?_,h.nod,h.cap,h.hno,h.thd,h.hth,h.que,h.hen,h.nd,h.td,h.nb,h.tb,h.rt,fun d hd=>h.dap d (by simp [hd])⟩
 ·intro s c hs;obtain ⟨g1,g2⟩:=h.inN s c hs;refine ⟨g1,?_⟩;rcases g2 with g2 | ⟨d,hd,g2,g3⟩
  ·exact .inl g2
  ·simp only [List.mem_append,List.mem_singleton] at hd;rcases hd with hd | rfl
   ·exact .inr ⟨d,hd,g2,g3⟩
   ·simp only at g3;omega
 ·have:=h.dn;rw [List.map_append,List.nodup_append] at this;exact this.1
theorem zi (D:List (Int×Int)):D=[]\/∃A nd left,D=A++[(nd,left)]/\D.getLast?=some (nd,left)/\D.dropLast=A:=by
 rcases List.eq_nil_or_concat D with h | ⟨A,d,rfl⟩
 ·exact .inl h
 ·exact .inr ⟨A,d.1,d.2,by simp,by simp,by simp⟩
theorem zf {R:dq}{A:List (Int×Int)}{nd:Int}{ws:Nat->Int}{q:List Wt}:cg ⟨R,A++[(nd,0)],ws,q⟩=⟨R,A,ws,q⟩:=by
 unfold cg;simp
theorem yz {R:dq}{A:List (Int×Int)}{nd left:Int}{ws:Nat->Int}{q:List Wt}(h:left≠0):cg ⟨R,A++[(nd,left)],ws,q⟩=n_ ⟨R,A++[(nd,left-1)],ws,q⟩ nd (left-1):=by
 unfold cg;simp [h]
theorem bc7 {K:a_}{A:List (Int×Int)}{nd:Int}:bh ⟨K,A++[(nd,0)]⟩=⟨K,A⟩:=by
 unfold bh;simp
theorem bb3 {K:a_}{A:List (Int×Int)}{nd left:Int}(h:left≠0):bh ⟨K,A++[(nd,left)]⟩=iz ⟨K,A++[(nd,left-1)]⟩ ⟨nd,left-1⟩:=by
 unfold bh;simp [h]
theorem Ag.step {S:RS}{S':KS}(h:Ag S S'):Ag (cg S) (bh S'):=by
 obtain ⟨hC,hD,hws,hQ⟩:=h;obtain ⟨K,D⟩:=S';obtain ⟨R,D',ws,q⟩:=S;simp only at hC hD hws hQ;subst hD;rcases zi D with rfl | ⟨A,nd,left,rfl,_,_⟩
 ·exact ⟨hC,rfl,hws,hQ⟩
 ·obtain ⟨b1,b2,b3,b4,_⟩:=hC.dm (nd,left) (by simp);dsimp only at b1 b2 b3 b4;by_cases hl:left=0
  ·subst hl;rw [zf,bc7];exact ⟨hC.dropD,rfl,hws,hQ⟩
  ·rw [yz hl,bb3 hl];unfold n_;simp only;rcases hC.rel.idx nd (left-1) with ⟨e1,e2⟩ | ⟨p,hp,e1,e2,c,e3,e4⟩
   ·rw [e1,zd e2];exact ⟨hC.lower (E:=[]) (by omega) e2,rfl,hws,hQ⟩
   ·rw [e1];simp only [List.getElem?_eq_getElem hp];obtain ⟨R1,ext,q1,r1,r2,_⟩:=aw2 R ws q p R.L[p];obtain ⟨K1,ext',k1,k2,k3⟩:=b23 K ⟨nd,left-1⟩;have hA:=(Ag.mk (S:=⟨R,A++[(nd,left)],ws,q⟩) (S':=⟨K,A++[(nd,left)]⟩) hC rfl hws hQ).take (p:=p) hp;rw [e2] at hA;rw [r1,k1] at hA ⊢;obtain ⟨a1,a2,a3,a4⟩:=hA;simp only at a1 a2 a3 a4;have hext:ext'=ext:=List.append_cancel_left a2;subst hext;rw [List.append_assoc] at a1 ⊢;exact ⟨a1.lower (by omega) k2,rfl,a3,a4⟩
theorem Ag.done {S:RS}{S':KS}(h:Ag S S'):df S=bz S':=by unfold df bz;rw [h.d]
theorem Ag.work:∀(n:Nat) {S:RS} {S':KS} (bs:List Bool),Ag S S'->(ao cg df n S bs).2=(ao bh bz n S' bs).2/\Ag (ao cg df n S bs).1 (ao bh bz n S' bs).1
 | 0,_,_,_,h=>⟨rfl,h⟩
 | n+1,S,S',bs,h=>by
  unfold ao;rw [h.done];by_cases hd:bz S'=true
  ·rw [if_pos hd,if_pos hd];exact ⟨rfl,h⟩
  ·rw [if_neg hd,if_neg hd];cases bs with
   | nil=>exact Ag.work n [] h.step
   | cons b r=>
    cases b with
    | true=>exact ⟨rfl,h.step⟩
    | false=>exact Ag.work n r h.step
def muD (D:List (Int×Int)):Nat:=(D.map fun d=>d.2.toNat+1).sum
def mu (S:RS):Nat:=18*S.R.L.length+muD S.D
theorem qw (A B:List (Int×Int)):muD (A++B)=muD A+muD B:=by simp [muD]
theorem bf4 {S:RS}{S':KS}(h:Ag S S'){p:Nat}(hp:p<S.R.L.length):mu (ik S p S.R.L[p])+1<=mu S/\(ik S p S.R.L[p]).R.L.length+1=S.R.L.length:=by
 obtain ⟨hC,hD,hws,hQ⟩:=h;obtain ⟨R,D,ws,q⟩:=S;simp only at hC hp;obtain ⟨R1,ext,q1,r1,r2,r3⟩:=aw2 R ws q p R.L[p];simp only [r1,mu,r2,qw];have hlen:=as0 hp;have hext:muD ext<=17:=by
  rcases r3 with rfl | ⟨hty,rfl⟩
  ·simp [muD]
  ·obtain ⟨c,hc,ht⟩:=hC.rel.cap _ (List.getElem_mem hp);have h2:=qp ht;obtain ⟨hb,hbi,_⟩:=pa ht;rw [hty] at h2;have:pw (R.L[p].bits-2).toNat<=16:=by
    cases c with
    | node b n r=>
     obtain ⟨n3,n6,hnb⟩:=hC.hno _ _ _ _ hc;obtain ⟨q1,q2⟩:=zc n3 n6;simp only [KCap.bits] at hbi;rw [<- hbi];rw [q1] at q2;simpa [pw] using q2
    | _=>simp only [KCap.ty] at h2;omega
   simp only [muD,List.map_cons,List.map_nil,List.sum_cons,List.sum_nil];omega
 exact ⟨by omega,hlen⟩
theorem ai1 {S:RS}{S':KS}(h:Ag S S')(hd:df S=false):mu (cg S)+1<=mu S/\(cg S).R.L.length<=S.R.L.length:=by
 obtain ⟨R,D,ws,q⟩:=S;have hC:=h.core;simp only at hC;rcases zi D with rfl | ⟨A,nd,left,rfl,_,_⟩
 ·simp [df] at hd
 ·obtain ⟨b1,b2,b3,b4,_⟩:=hC.dm (nd,left) (by simp);dsimp only at b1 b2 b3 b4;by_cases hl:left=0
  ·subst hl;rw [zf];simp only [mu,qw];simp only [muD,List.map_cons,List.map_nil,List.sum_cons,List.sum_nil];omega
  ·rw [yz hl];unfold n_;simp only;have hlow:muD (A++[(nd,left-1)])+1=muD (A++[(nd,left)]):=by
    rw [qw,qw];simp only [muD,List.map_cons,List.map_nil,List.sum_cons,List.sum_nil];omega
   rcases hC.rel.idx nd (left-1) with ⟨e1,e2⟩ | ⟨p,hp,e1,e2,c,e3,e4⟩
   ·rw [e1];simp only [mu];omega
   ·rw [e1];simp only [List.getElem?_eq_getElem hp];have h1:=bf4 h (p:=p) hp;simp only at h1;obtain ⟨R1,ext,q1,r1,r2,r3⟩:=aw2 R ws q p R.L[p];rw [r1] at h1 ⊢;simp only [mu,qw (A++_) ext] at h1 ⊢;omega
theorem Ag.ends:∀(n:Nat) {S:RS} {S':KS},Ag S S'->mu S<=n->xx cg df n S/\xx bh bz n S'
 | 0,S,S',h,hm=>by
  have:df S=true:=by
   cases hd:df S with
   | true=>rfl
   | false=>have:=ai1 h hd;omega
  exact ⟨this,by rw [xx,<- h.done];exact this⟩
 | n+1,S,S',h,hm=>by
  cases hd:df S with
  | true=>exact ⟨.inl hd,.inl (by rw [<- h.done];exact hd)⟩
  | false=>
   have:=ai1 h hd;obtain ⟨g1,g2⟩:=Ag.ends n h.step (by omega);exact ⟨.inr g1,.inr g2⟩
theorem bx5:∀{D:List (Int×Int)},(∀d∈D,d.2<=16)->muD D<=17*D.length
 | [],_=>by simp [muD]
 | d :: D,h=>by
  have h1:=h d (by simp);have h2:=bx5 (D:=D) (fun x hx=>h x (by simp [hx]))
  simp only [muD,List.map_cons,List.sum_cons,List.length_cons] at h2 ⊢;omega
theorem bq.lenD {R:dq}{K:a_}{D:List (Int×Int)}(h:bq R K D):D.length<=1024:=by
 have:=qi (fun b:Int=>b.toNat) 1024 (D.map Prod.fst) h.dn (fun a ha b hb e=>by
  obtain ⟨l,hl,rfl⟩:=List.mem_map.1 ha;obtain ⟨l',hl',rfl⟩:=List.mem_map.1 hb;have:=h.dm l hl;have:=h.dm l' hl';try dsimp only at e
  omega) (fun a ha=>by
  obtain ⟨l,hl,rfl⟩:=List.mem_map.1 ha;have:=h.dm l hl;try dsimp only
  omega)
 simpa using this
def F0:Nat:=400000
theorem b73:F0=400000:=rfl
theorem Ag.mu_le {S:RS}{S':KS}(h:Ag S S'):mu S<=F0:=by
 have h1:=h.core.len;have h2:=h.core.lenD;have h3:=bx5 (D:=S.D) (fun d hd=>(h.core.dm d hd).2.2.2.1)
 rw [b73];unfold mu;omega
attribute [irreducible] F0
theorem xe {σ:Type}{step:σ->σ}{done:σ->Bool}:∀(n:Nat) (S:σ) (bs:List Bool),xx step done n S->(ao step done n S bs).2.2=true->done (ao step done n S bs).1=true
 | 0,S,bs,h,_=>h
 | n+1,S,bs,h,h2=>by
  unfold ao at h2 ⊢;by_cases hd:done S=true
  ·rw [if_pos hd];exact hd
  ·rw [if_neg hd] at h2 ⊢;have h':=h.resolve_left hd;cases bs with
   | nil=>exact xe n _ [] h' h2
   | cons b r=>
    cases b with
    | true=>simp at h2
    | false=>exact xe n _ r h' h2
theorem ao4 {σ:Type}{step:σ->σ}{done:σ->Bool}:∀(n:Nat) (S:σ),(ao step done n S []).2=([],true)
 | 0,_=>rfl
 | n+1,S=>by
  unfold ao;split
  ·rfl
  ·exact ao4 n _
theorem ar2 {S:RS}:df S=true ↔ S.D=[]:=by unfold df;simp
theorem ax4:∀(n:Nat) {S:RS} {S':KS} (bs:List Bool),Ag S S'->(ao cg df n S bs).1.R.L.length<=S.R.L.length
 | 0,_,_,_,_=>Nat.le_refl _
 | n+1,S,S',bs,h=>by
  unfold ao;by_cases hd:df S=true
  ·rw [if_pos hd];exact Nat.le_refl _
  ·rw [if_neg hd];have h1:=(ai1 h (by simpa using hd)).2;cases bs with
   | nil=>exact Nat.le_trans (ax4 n [] h.step) h1
   | cons b r=>
    cases b with
    | true=>exact h1
    | false=>exact Nat.le_trans (ax4 n r h.step) h1
def ar:List Bool->Bool×List Bool
 | []=>(false,[])
 | b :: r=>(b,r)
def takeB (S:RS)(p:Nat)(e:aw)(bs:List Bool):Int×RS×List Bool:=
 if (ar bs).1 then (8,ik S p e,(ar bs).2)
 else (if (ao cg df F0 (ik S p e) (ar bs).2).2.2 then 0 else 8,(ao cg df F0 (ik S p e) (ar bs).2).1,(ao cg df F0 (ik S p e) (ar bs).2).2.1)
noncomputable def eu (S:KS)(s:Slot)(bs:List Bool):Int×KS×List Bool:=
 if (ar bs).1 then (8,iz S s,(ar bs).2)
 else (if (ao bh bz F0 (iz S s) (ar bs).2).2.2 then 0 else 8,(ao bh bz F0 (iz S s) (ar bs).2).1,(ao bh bz F0 (iz S s) (ar bs).2).2.1)
theorem Ag.takeB {S:RS}{S':KS}(h:Ag S S'){p:Nat}(hp:p<S.R.L.length)(bs:List Bool):
 (takeB S p S.R.L[p] bs).1=(eu S' S.R.L[p].slot bs).1/\(takeB S p S.R.L[p] bs).2.2=(eu S' S.R.L[p].slot bs).2.2/\Ag (takeB S p S.R.L[p] bs).2.1 (eu S' S.R.L[p].slot bs).2.1/\
 (takeB S p S.R.L[p] bs).2.1.R.L.length<S.R.L.length/\(bs=[]->(takeB S p S.R.L[p] bs).1=0/\(takeB S p S.R.L[p] bs).2.2=[]/\(takeB S p S.R.L[p] bs).2.1.D=[]):=by
 have h1:=h.take hp;have h2:=(bf4 h hp).2;unfold Proofs.YtdpjgflemddekaaGreatDoor.takeB eu;by_cases hb:(ar bs).1=true
 ·rw [if_pos hb,if_pos hb];refine ⟨rfl,rfl,h1,by simp only;omega,?_⟩;rintro rfl;simp [ar] at hb
 ·rw [if_neg hb,if_neg hb];obtain ⟨g1,g2⟩:=Ag.work F0 (ar bs).2 h1;have g3:=ax4 F0 (ar bs).2 h1;refine ⟨by simp only [g1],by simp only [g1],g2,by simp only;omega,?_⟩;rintro rfl;have g4:(ao cg df F0 (ik S p S.R.L[p]) (ar []).2).2=([],true):=ao4 _ _;simp only [g4];refine ⟨rfl,trivial,ar2.1 (xe F0 _ _ (Ag.ends F0 h1 h1.mu_le).1 (by rw [g4]))⟩
def iw (L:List aw)(up:Int)(p:Nat):Nat->Nat
 | 0=>p+1
 | k+1=>match L[p+1+k]? with
  | some e=>if e.up=up+1 then p+1+k else iw L up p k
  | none=>iw L up p k
def cf (L:List aw)(p:Nat)(up:Int):Nat:=iw L up p (ie L p up-(p+1))
def og (K:a_)(s:Slot):Slot:=match K.st s with
 | some x=>x.kids.getLast?.getD ⟨0,0⟩
 | none=>⟨0,0⟩
theorem Fo.flat_roots:∀(F:Fo) (d:Int),(F.flat d).filter (fun x=>decide (x.2=d))=F.roots.map fun s=>(s,d)
 | .nil,_=>rfl
 | .node s kids next,d=>by
  simp only [Fo.flat,Fo.roots,List.map_cons];rw [List.filter_cons_of_pos (by simp),List.filter_append,flat_roots next d];have:(kids.flat (d+1)).filter (fun x=>decide (x.2=d))=[]:=by
   rw [List.filter_eq_nil_iff];intro x hx;have:=Fo.flat_ge kids (d+1) x hx;simp;omega
  rw [this,List.nil_append]
theorem Fo.In.split2 {st:Slot->Option nw}:∀{F:Fo} {d:Int} {p:Slot},F.In st p->∀s∈F.slots,∃A B C u x,F.flat d=A++(s,u) :: (B++C)/\(∀y∈B,u<y.2)/\(∀y∈C.head?,y.2<=u)/\d<=u/\st s=some x/\(B=[] ↔ x.kids=[])/\
 B.filter (fun y=>decide (y.2=u+1))=x.kids.map fun k=>(k,u+1)
 | .nil,_,_,_,s,h=>by simp [Fo.slots] at h
 | .node s0 kids next,d,p,⟨⟨x,h1,h2,h3⟩,h4,h5⟩,s,h=>by
  simp only [Fo.slots,List.mem_cons,List.mem_append] at h;rcases h with rfl | h | h
  ·refine ⟨[],kids.flat (d+1),next.flat d,d,x,by simp [Fo.flat],fun y hy=>by have:=Fo.flat_ge kids (d+1) y hy;omega,fun y hy=>by rw [Fo.flat_head next d y hy];omega,Int.le_refl _,h1,?_,?_⟩
   ·rw [h3];cases kids with
    | nil=>simp [Fo.flat,Fo.roots]
    | node _ _ _=>simp [Fo.flat,Fo.roots]
   ·rw [h3];exact Fo.flat_roots kids (d+1)
  ·obtain ⟨A,B,C,u,y,e1,hB,hC,hd,e2,e3⟩:=h4.split2 (d:=d+1) s h;refine ⟨(s0,d) :: A,B,C++next.flat d,u,y,by simp [Fo.flat,e1],hB,?_,by omega,e2,e3⟩;intro z hz;cases C with
   | nil=>simp at hz;have:=Fo.flat_head next d z hz;omega
   | cons c C=>exact hC z (by simpa using hz)
  ·obtain ⟨A,B,C,u,y,e1,hB,hC,hd,e2,e3⟩:=h5.split2 (d:=d) s h;exact ⟨(s0,d) :: (kids.flat (d+1)++A),B,C,u,y,by simp [Fo.flat,e1],hB,hC,hd,e2,e3⟩
theorem ah0 {L:List aw}{A B C:List (Slot×Int)}{s:Slot}{u:Int}(h:L.map aw.key=A++(s,u) :: (B++C)):∀(k:Nat),k<=B.length->∀y,((B.take k).filter (fun y=>decide (y.2=u+1))).getLast?=some y->
 ∃e,L[iw L u A.length k]?=some e/\e.key=y/\A.length<iw L u A.length k/\iw L u A.length k<A.length+1+k
 | 0,_,y,hy=>by simp at hy
 | k+1,hk,y,hy=>by
  have hlen:L.length=A.length+1+B.length+C.length:=by have:=congrArg List.length h;simp at this;omega
  have hkL:A.length+1+k<L.length:=by omega
  have hget:L[A.length+1+k].key=B[k]:=by
   have h1:(L.map aw.key)[A.length+1+k]?=some L[A.length+1+k].key:=by simp [hkL]
   rw [h,show A++(s,u) :: (B++C)=(A++[(s,u)])++(B++C) by simp,List.getElem?_append_right (by simp)] at h1;have e:A.length+1+k-(A++[(s,u)]).length=k:=by simp
   rw [e,List.getElem?_append_left (by omega),List.getElem?_eq_getElem (by omega)] at h1;exact (Option.some.inj h1).symm
  rw [List.take_succ_eq_append_getElem (by omega),List.filter_append] at hy;have hto:iw L u A.length (k+1)=if L[A.length+1+k].up=u+1 then A.length+1+k else iw L u A.length k:=by
   rw [iw,List.getElem?_eq_getElem hkL]
  rw [hto];by_cases hu:L[A.length+1+k].up=u+1
  ·simp only [if_pos hu];have hb:B[k].2=u+1:=by rw [<- hget];exact hu
   rw [List.filter_cons_of_pos (by simpa using hb)] at hy;simp at hy;exact ⟨_,List.getElem?_eq_getElem hkL,by rw [hget,hy],by omega,by omega⟩
  ·simp only [if_neg hu];have hb:¬B[k].2=u+1:=by rw [<- hget];exact hu
   rw [List.filter_cons_of_neg (by simpa using hb)] at hy;simp only [List.filter_nil,List.append_nil] at hy;obtain ⟨e,g0,g1,g2,g3⟩:=ah0 h k (by omega) y hy;exact ⟨e,g0,g1,g2,by omega⟩
theorem yi.kidsOf {R:dq}{K:a_}(h:yi R K)(i:Nat)(hi:i<R.L.length):
 (ie R.L i R.L[i].up=i+1 ↔ c_ K R.L[i].slot=false)/\(c_ K R.L[i].slot=true->∃hj:cf R.L i R.L[i].up<R.L.length,(R.L[cf R.L i R.L[i].up]).slot=og K R.L[i].slot/\i<cf R.L i R.L[i].up):=by
 obtain ⟨F,hF⟩:=h.tree;have hs:R.L[i].slot∈F.slots:=by rw [hF.slots];exact List.mem_map.2 ⟨_,List.getElem_mem hi,rfl⟩
 obtain ⟨A,B,C,u,x,e1,hB,hC,_,e2,e3,e4⟩:=hF.stands.split2 (d:=0) _ hs;rw [<- hF.flat] at e1;obtain ⟨r1,r2⟩:=ab8 hF.nd e1 hi rfl;have r3:=bd3 e1 hB hC;rw [r1,<- r2] at r3;have hk:c_ K R.L[i].slot=decide (0<x.kids.length):=by unfold c_;rw [e2]
 constructor
 ·rw [hk,r3];simp only [decide_eq_false_iff_not];constructor
  ·intro g;have:B=[]:=List.length_eq_zero_iff.1 (by omega);rw [e3.1 this];simp
  ·intro g;have:x.kids=[]:=List.length_eq_zero_iff.1 (by omega);rw [e3.2 this];rfl
 ·intro g;rw [hk] at g;simp only [decide_eq_true_eq] at g;have hne:x.kids≠[]:=fun e=>by rw [e] at g;simp at g
  obtain ⟨l,hl⟩:∃l,x.kids.getLast?=some l:=⟨_,List.getLast?_eq_some_getLast hne⟩;have hlast:((B.take B.length).filter (fun y=>decide (y.2=u+1))).getLast?=some (l,u+1):=by
   rw [List.take_length,e4,List.getLast?_map,hl];rfl
  obtain ⟨e,g0,g1,g2,_⟩:=ah0 e1 B.length (Nat.le_refl _) _ hlast;have e5:cf R.L i R.L[i].up=iw R.L u A.length B.length:=by
   unfold cf;rw [r3,r2,r1];congr 1;omega
  rw [<- e5] at g0 g2;obtain ⟨hj,g3⟩:=List.getElem?_eq_some_iff.1 g0;refine ⟨hj,?_,by omega⟩;rw [g3];have:e.slot=l:=congrArg Prod.fst g1;rw [this];unfold og;rw [e2];simp only;rw [hl];rfl
def ew:Nat->RS->Int->Int->List Bool->Int×RS×List Bool
 | 0,S,_,_,bs=>(0,S,bs)
 | k+1,S,n,i,bs=>match S.R.L.findIdx? (ee n i) with
  | none=>(0,S,bs)
  | some p=>match S.R.L[p]? with
   | none=>(0,S,bs)
   | some e=>if ie S.R.L p e.up=p+1 then (0,S,bs) else
    match S.R.L[cf S.R.L p e.up]? with
    | none=>(0,S,bs)
    | some e'=>if (takeB S (cf S.R.L p e.up) e' bs).1=0 then ew k (takeB S (cf S.R.L p e.up) e' bs).2.1 n i (takeB S (cf S.R.L p e.up) e' bs).2.2 else takeB S (cf S.R.L p e.up) e' bs
noncomputable def i_:Nat->KS->Slot->List Bool->Int×KS×List Bool
 | 0,S,_,bs=>(0,S,bs)
 | k+1,S,s,bs=>if c_ S.K s then
  if (eu S (og S.K s) bs).1=0 then i_ k (eu S (og S.K s) bs).2.1 s (eu S (og S.K s) bs).2.2 else eu S (og S.K s) bs
  else (0,S,bs)
theorem Ag.revoke:∀(k:Nat) {S:RS} {S':KS} (n i:Int) (bs:List Bool),Ag S S'->0<=i->(ew k S n i bs).1=(i_ k S' ⟨n,i⟩ bs).1/\Ag (ew k S n i bs).2.1 (i_ k S' ⟨n,i⟩ bs).2.1/\(bs=[]->S.D=[]->(ew k S n i bs).2.1.D=[])
 | 0,_,_,_,_,_,h,_=>⟨rfl,h,fun _ h=>h⟩
 | k+1,S,S',n,i,bs,h,hi0=>by
  unfold ew i_;have hC:=h.core;rcases hC.rel.idx n i with ⟨e1,e2⟩ | ⟨p,hp,e1,e2,c,e3,e4⟩
  ·rw [e1];have hk:c_ S'.K ⟨n,i⟩=false:=by
    unfold c_;rw [hC.rel.treeOk.empty _ e2 hi0]
   rw [hk];exact ⟨rfl,h,fun _ h=>h⟩
  ·rw [e1];simp only [List.getElem?_eq_getElem hp];obtain ⟨k1,k2⟩:=hC.rel.kidsOf p hp;rw [e2] at k1 k2;by_cases hk:c_ S'.K ⟨n,i⟩=true
   ·rw [if_pos hk,if_neg (fun e=>by rw [k1.1 e] at hk;cases hk)];obtain ⟨hj,k3,_⟩:=k2 hk;simp only [List.getElem?_eq_getElem hj];obtain ⟨g1,g2,g3,g4,g5⟩:=h.takeB hj bs;rw [k3] at g1 g2 g3;rw [g1,g2];by_cases he:(eu S' (og S'.K ⟨n,i⟩) bs).1=0
    ·rw [if_pos he,if_pos he];obtain ⟨q1,q2,q3⟩:=Ag.revoke k n i (eu S' (og S'.K ⟨n,i⟩) bs).2.2 g3 hi0;refine ⟨q1,q2,fun hb _=>?_⟩
     obtain ⟨p1,p2,p3⟩:=g5 hb;exact q3 (by rw [<- g2];exact p2) p3
    ·rw [if_neg he,if_neg he];exact ⟨g1,g3,fun hb _=>(g5 hb).2.2⟩
   ·rw [if_neg hk,if_pos (k1.2 (by simpa using hk))];exact ⟨rfl,h,fun _ h=>h⟩
def ou (ws:Nat->Int)(a n:Int):Nat->Int:=fun i=>if a<=(i:Int)/\(i:Int)<a+n then 0 else ws i
def b_ (m:Int)(bs:List Bool):Int×List Bool×Bool:=ao (fun m=>max (m-16) 0) (fun m=>decide (m<=0)) 100 m bs
theorem sk:∀(n:Nat) (m:Int) (bs:List Bool),0<=m->0<=(ao (fun m=>max (m-16) 0) (fun m=>decide (m<=0)) n m bs).1/\(ao (fun m=>max (m-16) 0) (fun m=>decide (m<=0)) n m bs).1<=m
 | 0,m,bs,h=>⟨h,Int.le_refl _⟩
 | n+1,m,bs,h=>by
  unfold ao;by_cases hd:decide (m<=0)=true
  ·rw [if_pos hd];exact ⟨h,Int.le_refl _⟩
  ·rw [if_neg hd];have h1:0<=max (m-16) 0:=by omega
   have h2:max (m-16) 0<=m:=by omega
   cases bs with
   | nil=>have:=sk n (max (m-16) 0) [] h1;exact ⟨this.1,Int.le_trans this.2 h2⟩
   | cons b r=>
    cases b with
    | true=>exact ⟨h1,h2⟩
    | false=>have:=sk n (max (m-16) 0) r h1;exact ⟨this.1,Int.le_trans this.2 h2⟩
def y_ (S:RS)(root:Int)(c:Cl)(p:Nat)(e:aw)(n ix:Int):Int×RS:=((ad_ S.R root c p e n ix).1,{S with R:=(ad_ S.R root c p e n ix).2})
def fy (S:RS)(p:Nat)(e:aw)(m:Int):RS:=⟨{S.R with L:=S.R.L.set p {e with mark:=m}},S.D,ou S.ws (e.base+m) (e.mark-m),S.q⟩
def j0 (S:RS)(root:Int)(c:Cl)(p:Nat)(e:aw)(bs:List Bool):Int×RS:=
 if e.ty≠1 then (3,S)
 else if rh c=false then (7,S)
 else match bk S.R.L S.R.N root c.to with
  | none=>(2,S)
  | some (n,ix)=>
   if bf S.R.N n<ix+c.count then (2,S)
   else if ko S.R.L n ix c.count.toNat then (4,S)
   else if ie S.R.L p e.up=p+1 then
    if (b_ e.mark bs).2.2 then y_ (fy S p e (b_ e.mark bs).1) root c p {e with mark:=(b_ e.mark bs).1} n ix
    else (8,fy S p e (b_ e.mark bs).1)
   else y_ S root c p e n ix
def ed (K:a_)(f:Slot)(b n m m':Int):a_:={K with held:=upd K.held f (some (.untyped b n m')),ws:=ou K.ws (b+m') (m-m')}
def si (S:KS)(f s:Slot)(ty bits root b n m:Int)(cnt:Nat):Int×KS:=((ld S.K f s ty bits root b n m cnt).1,{S with K:=(ld S.K f s ty bits root b n m cnt).2})
def jh (S:KS)(root:Int)(c:Cl)(bs:List Bool):Option (Int×KS):=
 match az S.K root c.at_ with
 | none=>none
 | some f=>match S.K.held f with
  | some (.untyped b n m)=>
   if jo c.ty c.bits=true/\1<=c.count/\c.count<=8 then
    match ah2 S.K root c.to c.count.toNat with
    | none=>none
    | some (_,false)=>some (4,S)
    | some (s,true)=>if c_ S.K f then some (si S f s c.ty c.bits root b n m c.count.toNat)
     else if (b_ m bs).2.2 then some (si {S with K:=ed S.K f b n m (b_ m bs).1} f s c.ty c.bits root b n (b_ m bs).1 c.count.toNat)
     else some (8,{S with K:=ed S.K f b n m (b_ m bs).1})
   else some (7,S)
  | _=>some (3,S)
def yu (S:KS):Option (Int×KS)->Int×KS
 | some y=>y
 | none=>(2,S)
theorem as7 {ws ws':Nat->Int}(h:∀i,i<1024->ws i=ws' i)(a n:Int):∀i,i<1024->ou ws a n i=ou ws' a n i:=by
 intro i hi;unfold ou;rw [h i hi]
theorem a95 {K K':a_}{f:Slot}{b n m m':Int}(hf:K.held f=some (.untyped b n m))(hh:K'.held=upd K.held f (some (.untyped b n m')))(s:Slot):nf K' s=nf K s:=by
 unfold nf;rw [hh];by_cases e:s=f
 ·rw [e,ai,hf]
 ·rw [ae _ _ e]
theorem a7_ {K K':a_}{f:Slot}{b n m m':Int}(hf:K.held f=some (.untyped b n m))(root:Int)(l:List Int)(hh:K'.held=upd K.held f (some (.untyped b n m')):=by rfl)(hn:K'.nodes=K.nodes:=by rfl):az K' root l=az K root l:=by
 unfold az;have hok:∀nd x,okK K' nd x=okK K nd x:=fun nd x=>by unfold okK bt;rw [hn]
 split
 ·rfl
 ·have:∀(l:List Int) (nd:Int),goK K' nd l=goK K nd l:=by
   intro l;induction l with
   | nil=>intro nd;rfl
   | cons x l ih=>
    intro nd;cases l with
    | nil=>simp only [goK,hok]
    | cons y r=>
     simp only [goK,hok,a95 hf hh];split
     ·cases nf K ⟨nd,x⟩ with
      | none=>rfl
      | some nd'=>exact ih nd'
     ·rfl
  exact this l root
theorem ao3 (K:a_)(f s:Slot)(ty bits root st:Int):∀i:Nat,(dc K f s ty bits root st i).ws=K.ws
 | 0=>rfl
 | i+1=>by
  rw [<- ao3 K f s ty bits root st i];simp only [dc];generalize ki ty (st+i*pw bits.toNat) bits=c;cases c<;>rfl
theorem ar3 (K:a_)(f s:Slot)(ty bits root b n m:Int)(cnt:Nat):(ld K f s ty bits root b n m cnt).2.ws=K.ws:=by
 unfold ld;split
 ·rfl
 ·exact ao3 _ _ _ _ _ _ _ _
theorem Ag.retype {S:RS}{S':KS}(h:Ag S S')(hD:S.D=[]){p:Nat}(hp:p<S.R.L.length)(root:Int)(c:Cl)(bs:List Bool)(hf:az S'.K root c.at_=some S.R.L[p].slot):
 (j0 S root c p S.R.L[p] bs).1=(yu S' (jh S' root c bs)).1/\Ag (j0 S root c p S.R.L[p] bs).2 (yu S' (jh S' root c bs)).2/\(j0 S root c p S.R.L[p] bs).2.D=[]:=by
 obtain ⟨hC,hD',hws,hQ⟩:=h;obtain ⟨K,D⟩:=S';obtain ⟨R,D',ws,q0⟩:=S;simp only at hC hD hD' hws hQ hp hf ⊢;subst hD';subst hD;have hA:Ag ⟨R,[],ws,q0⟩ ⟨K,[]⟩:=⟨hC,rfl,hws,hQ⟩;obtain ⟨k,hk,ht⟩:=hC.rel.cap _ (List.getElem_mem hp);obtain ⟨t1,_⟩:=ak1 ht;unfold jh;simp only [hf,hk];by_cases hu:k.isU=true
 ·cases k with
  | untyped b n m=>
   simp only;have hty:¬R.L[p].ty≠1:=fun e=>e (t1.2 hu)
   have ht':=ht;simp only [KCap.told,aw.told,Prod.mk.injEq] at ht';obtain ⟨a1,rfl,rfl,a4,a5,rfl⟩:=ht';unfold j0;rw [if_neg hty];by_cases hob:rh c=true
   ·have hob':=(ae0 c).1 hob;rw [if_pos hob',if_neg (by simp [hob])];unfold ah2;rw [hC.rel.find];cases hf2:bk R.L R.N root c.to with
    | none=>exact ⟨rfl,hA,rfl⟩
    | some q=>
     obtain ⟨nd,ix⟩:=q;simp only [Option.map_some,ta];obtain ⟨o1,o2⟩:=hC.found_ok hf2;have hcnt:((c.count.toNat:Nat):Int)=c.count:=by omega
     have hslots:bf R.N nd=bt K nd:=by unfold bt;rw [hC.rel.nodes]
     by_cases hroom:bf R.N nd<ix+c.count
     ·have hnok:okK K nd (ix+c.count.toNat-1)=false:=by
       unfold okK;rw [hcnt,<- hslots];have:¬ix+c.count-1<bf R.N nd:=by omega
       simp [this]
      rw [if_pos hroom,hnok];exact ⟨rfl,hA,rfl⟩
     ·have hok:okK K nd (ix+c.count.toNat-1)=true:=by
       unfold okK;rw [hcnt,<- hslots];have g1:ix+c.count-1<bf R.N nd:=by omega
       have g2:0<=ix+c.count-1:=by omega
       simp only [Bool.and_eq_true,decide_eq_true_eq];exact ⟨g2,g1⟩
      rw [if_neg hroom,hok,if_pos rfl,ak3 hC.rel];by_cases hfu:ko R.L nd ix c.count.toNat=true
      ·rw [if_pos hfu];simp only [hfu,Bool.not_true];exact ⟨rfl,hA,trivial⟩
      ·have hfu':ko R.L nd ix c.count.toNat=false:=by simpa using hfu
       rw [if_neg hfu];simp only [hfu',Bool.not_false];obtain ⟨kd1,_⟩:=hC.rel.kidsOf p hp;have hcap:=hC.cap _ _ hk;simp only [KCap.base,KCap.bits,KCap.mark] at hcap;by_cases hkid:c_ K R.L[p].slot=true
       ·rw [if_neg (fun e=>by rw [kd1.1 e] at hkid;cases hkid),if_pos hkid];obtain ⟨g1,g2,g3⟩:=hC.carves hp root c _ hk rfl hob hf2 hroom hfu';refine ⟨g1,⟨g2,rfl,fun i hi=>?_,hQ.more g3⟩,rfl⟩
        show ws i=(ld K R.L[p].slot ⟨nd,ix⟩ c.ty c.bits root R.L[p].base R.L[p].bits R.L[p].mark c.count.toNat).2.ws i;rw [ar3];exact hws i hi
       ·rw [if_pos (kd1.2 (by simpa using hkid)),if_neg hkid];obtain ⟨m1,m2⟩:=sk 100 R.L[p].mark bs hcap.2.2.2.2.1;generalize hrm:b_ R.L[p].mark bs=y;have hrm':ao (fun m=>max (m-16) 0) (fun m=>decide (m<=0)) 100 R.L[p].mark bs=y:=hrm
        rw [hrm'] at m1 m2;have hC1:=hC.setMark hp hk (m':=y.1) (.inr (by simpa using hkid)) m1 (by omega);have hp1:p<(R.L.set p {R.L[p] with mark:=y.1}).length:=by simpa using hp
        have hg1:(R.L.set p {R.L[p] with mark:=y.1})[p]'hp1={R.L[p] with mark:=y.1}:=by simp
        have hC2:bq {R with L:=R.L.set p {R.L[p] with mark:=y.1}} (ed K R.L[p].slot R.L[p].base R.L[p].bits R.L[p].mark y.1) []:=
         ⟨⟨hC1.rel.cap,hC1.rel.emp,hC1.rel.tree,hC1.rel.nodes,hC1.rel.thr⟩,hC1.geo,hC1.inN,hC1.dm,hC1.dn,hC1.nod,hC1.cap,hC1.hno,hC1.thd,hC1.hth,hC1.que,hC1.hen,hC1.nd,hC1.td,hC1.nb,hC1.tb,hC1.rt,hC1.dap⟩
        have hQ1:yj q0 (ed K R.L[p].slot R.L[p].base R.L[p].bits R.L[p].mark y.1):=hQ.same rfl (fun _ t e1 e2=>⟨t,e1,e2⟩);have hws1:∀i,i<1024->ou ws (R.L[p].base+y.1) (R.L[p].mark-y.1) i=ou K.ws (R.L[p].base+y.1) (R.L[p].mark-y.1) i:=as7 hws _ _;by_cases hok2:y.2.2=true
        ·rw [if_pos hok2,if_pos hok2];have hfe:bk (R.L.set p {R.L[p] with mark:=y.1}) R.N root c.to=some (nd,ix):=by
          have:=hC2.rel.find root c.to;have h2:=hC.rel.find root c.to;rw [hf2] at h2;have h3:az (ed K R.L[p].slot R.L[p].base R.L[p].bits R.L[p].mark y.1) root c.to=az K root c.to:=a7_ hk root c.to;rw [h3,h2] at this;cases hq:bk (R.L.set p {R.L[p] with mark:=y.1}) R.N root c.to with
          | none=>rw [hq] at this;cases this
          | some q=>
           rw [hq] at this;simp only [Option.map_some,ta,Option.some.injEq,Slot.mk.injEq] at this;obtain ⟨q1,q2⟩:=q;simp only at this;rw [this.1,this.2]
         have hfu1:ko (R.L.set p {R.L[p] with mark:=y.1}) nd ix c.count.toNat=false:=by
          have h1:=ak3 hC2.rel nd ix c.count.toNat;have h2:=ak3 hC.rel nd ix c.count.toNat;have h3:((ci ⟨nd,ix⟩ c.count.toNat).all fun t=>((ed K R.L[p].slot R.L[p].base R.L[p].bits R.L[p].mark y.1).held t).isNone)=((ci ⟨nd,ix⟩ c.count.toNat).all fun t=>(K.held t).isNone):=by
           congr 1;funext t;show (upd K.held R.L[p].slot _ t).isNone=_;by_cases e:t=R.L[p].slot
           ·rw [e,ai,hk];rfl
           ·rw [ae _ _ e]
          rw [h3,h2,hfu'] at h1;simpa using h1.symm
         have hc3:=hC2.carves (p:=p) hp1 root c y.1 (by rw [hg1];exact ai _ _ _) (by rw [hg1]) hob (l:=c.to) hfe hroom hfu1;rw [hg1] at hc3;obtain ⟨g1,g2,g3⟩:=hc3;refine ⟨g1,⟨g2,rfl,fun i hi=>?_,hQ1.more g3⟩,rfl⟩
         show ou ws (R.L[p].base+y.1) (R.L[p].mark-y.1) i=(ld (ed K R.L[p].slot R.L[p].base R.L[p].bits R.L[p].mark y.1) R.L[p].slot ⟨nd,ix⟩ c.ty c.bits root R.L[p].base R.L[p].bits y.1 c.count.toNat).2.ws i;rw [ar3];exact hws1 i hi
        ·rw [if_neg hok2,if_neg hok2];exact ⟨rfl,⟨hC2,rfl,hws1,hQ1⟩,rfl⟩
   ·have hob':¬(jo c.ty c.bits=true/\1<=c.count/\c.count<=8):=fun e=>hob ((ae0 c).2 e)
    rw [if_neg hob',if_pos (by simpa using hob)];exact ⟨rfl,hA,rfl⟩
  | _=>simp [KCap.isU] at hu
 ·have hL:j0 ⟨R,[],ws,q0⟩ root c p R.L[p] bs=(3,⟨R,[],ws,q0⟩):=by unfold j0;rw [if_pos (fun e=>hu (t1.1 e))]
  rw [hL];cases k with
  | untyped b n m=>simp [KCap.isU] at hu
  | _=>exact ⟨rfl,hA,rfl⟩
def km (K:a_)(root:Int)(c:Cl):Option (Int×a_):=
 if c.kind=2 then jr K root c else if c.kind=3 then ia K root c else kw K root c
def F1:Nat:=20000
theorem b42:F1=20000:=rfl
attribute [irreducible] F1
def p_ (S:RS)(b:Int)(c:Cl)(bs:List Bool):Int×RS:=
 match S.R.T.find? (af b) with
 | none=>(1,S)
 | some t=>
  if t.state≠1 then (1,S)
  else if c.kind<1\/11<c.kind then (7,S)
  else if c.kind=1\/c.kind=5\/c.kind=6 then
   let y:=ao cg df F0 S bs
   if y.2.2=false then (8,y.1)
   else match bk y.1.R.L y.1.R.N (fx y.1.R.N t.root) c.at_ with
    | none=>(2,y.1)
    | some (n,ix)=>match y.1.R.L.findIdx? (ee n ix) with
     | none=>if c.kind=1 then (3,y.1) else (4,y.1)
     | some p=>match y.1.R.L[p]? with
      | none=>(0,y.1)
      | some e=>if c.kind=1 then j0 y.1 (fx y.1.R.N t.root) c p e y.2.1
       else if c.kind=5 then ((takeB y.1 p e y.2.1).1,(takeB y.1 p e y.2.1).2.1)
       else ((ew F1 y.1 n ix y.2.1).1,(ew F1 y.1 n ix y.2.1).2.1)
  else match bk S.R.L S.R.N t.root c.at_ with
   | none=>(2,S)
   | some (n,ix)=>match S.R.L.findIdx? (ee n ix) with
    | none=>(4,S)
    | some p=>match S.R.L[p]? with
     | none=>(0,S)
     | some e=>((bw S.R t.root c p e).1,{S with R:={S.R with L:=(bw S.R t.root c p e).2}})
noncomputable def py (S:KS)(th:Int)(c:Cl)(bs:List Bool):Int×KS:=
 match S.K.thr th with
 | none=>(1,S)
 | some t=>
  if t.state≠1 then (1,S)
  else if c.kind<1\/11<c.kind then (7,S)
  else if c.kind=1\/c.kind=5\/c.kind=6 then
   let y:=ao bh bz F0 S bs
   if y.2.2=false then (8,y.1)
   else if c.kind=1 then yu y.1 (jh y.1 t.root c y.2.1)
   else match az y.1.K t.root c.at_ with
    | none=>(2,y.1)
    | some s=>if (y.1.K.held s).isNone then (4,y.1)
     else if c.kind=5 then ((eu y.1 s y.2.1).1,(eu y.1 s y.2.1).2.1)
     else ((i_ F1 y.1 s y.2.1).1,(i_ F1 y.1 s y.2.1).2.1)
  else ((dj S.K (km S.K t.root c)).1,{S with K:=(dj S.K (km S.K t.root c)).2})
def bp8 (K K':a_):Prop:=K'.ws=K.ws/\K'.thr=K.thr/\K'.qs=K.qs
theorem ac2 (K:a_)(root:Int)(l:List Int)(k:KCap)(p:Slot):bp8 K (dj K (cj K root l k p)).2:=by
 unfold cj;split
 ·exact ⟨rfl,rfl,rfl⟩
 ·split<;>exact ⟨rfl,rfl,rfl⟩
theorem as_ (K:a_)(root:Int)(c:Cl):bp8 K (dj K (km K root c)).2:=by
 unfold km;split
 ·unfold jr;split
  ·exact ⟨rfl,rfl,rfl⟩
  ·split
   ·exact ⟨rfl,rfl,rfl⟩
   ·split
    ·exact ⟨rfl,rfl,rfl⟩
    ·split
     ·exact ac2 _ _ _ _ _
     ·exact ⟨rfl,rfl,rfl⟩
 ·split
  ·unfold ia;split
   ·exact ⟨rfl,rfl,rfl⟩
   ·split
    ·exact ⟨rfl,rfl,rfl⟩
    ·split
     ·split
      ·exact ⟨rfl,rfl,rfl⟩
      ·split
       ·exact ac2 _ _ _ _ _
       ·exact ⟨rfl,rfl,rfl⟩
     ·exact ⟨rfl,rfl,rfl⟩
  ·unfold kw;split
   ·exact ⟨rfl,rfl,rfl⟩
   ·split
    ·exact ⟨rfl,rfl,rfl⟩
    ·split
     ·exact ⟨rfl,rfl,rfl⟩
     ·split<;>exact ⟨rfl,rfl,rfl⟩
theorem bj5 (K:a_)(root:Int)(c:Cl):(dj K (km K root c)).2.ws=K.ws:=(as_ K root c).1
theorem bq.small {R:dq}{K:a_}{D:List (Int×Int)}(h:bq R K D)(root:Int)(c:Cl)(hk:c.kind=2\/c.kind=3\/c.kind=4):
 ∀y,y=(match bk R.L R.N root c.at_ with
  | none=>((2:Int),R)
  | some (n,ix)=>match R.L.findIdx? (ee n ix) with
   | none=>(4,R)
   | some p=>match R.L[p]? with
    | none=>(0,R)
    | some e=>((bw R root c p e).1,{R with L:=(bw R root c p e).2}))->
 y.1=(dj K (km K root c)).1/\bq y.2 (dj K (km K root c)).2 D:=by
 intro y hy;have hA:∀(f:Option (Int×a_)),(az K root c.at_=none->f=none)->
  (∀n i,bk R.L R.N root c.at_=some (n,i)->K.held ⟨n,i⟩=none->f=some (4,K))->
  (∀p (hp:p<R.L.length) n i,bk R.L R.N root c.at_=some (n,i)->R.L[p].slot=⟨n,i⟩->∀k,K.held R.L[p].slot=some k->k.told=R.L[p].told->
    (bw R root c p R.L[p]).1=(dj K f).1/\bq {R with L:=(bw R root c p R.L[p]).2} (dj K f).2 D)->
  y.1=(dj K f).1/\bq y.2 (dj K f).2 D:=by
  intro f f1 f2 f3;subst hy;cases hfi:bk R.L R.N root c.at_ with
  | none=>
   rw [f1 (by rw [h.rel.find,hfi];rfl)];exact ⟨rfl,h⟩
  | some q=>
   obtain ⟨n,i⟩:=q;simp only;rcases h.rel.idx n i with ⟨e1,e2⟩ | ⟨p,hp,e1,e2,k,e3,e4⟩
   ·rw [e1,f2 n i hfi e2];exact ⟨rfl,h⟩
   ·rw [e1];simp only [List.getElem?_eq_getElem hp];rw [<- e2] at e3;exact f3 p hp n i hfi e2 k e3 e4
 have hfk:∀n i,bk R.L R.N root c.at_=some (n,i)->az K root c.at_=some ⟨n,i⟩:=fun n i e=>by rw [h.rel.find,e];rfl
 unfold km;by_cases h2:c.kind=2
 ·simp only [if_pos h2];refine hA (jr K root c) ?_ ?_ ?_
  ·intro e;unfold jr;rw [e]
  ·intro n i e e2;unfold jr;rw [hfk n i e];simp only [e2]
  ·intro p hp n i e e2 k e3 e4;have:jr K root c=(if k.isU then some (3,K) else if 0<=c.rights/\c.rights<=7 then cj K root c.to (fj k c.rights) R.L[p].slot else some (7,K)):=by
    unfold jr;rw [hfk n i e];rw [e2] at e3;simp only [e3,e2]
   rw [this];exact h.copy hp root c k e3 e4 h2
 ·simp only [if_neg h2];by_cases h3:c.kind=3
  ·simp only [if_pos h3];refine hA (ia K root c) ?_ ?_ ?_
   ·intro e;unfold ia;rw [e]
   ·intro n i e e2;unfold ia;rw [hfk n i e];simp only [e2]
   ·intro p hp n i e e2 k e3 e4;have:ia K root c=an2 K root c R.L[p].slot k:=by
     unfold ia;rw [hfk n i e];rw [e2] at e3;simp only [e3,e2];rfl
    rw [this];exact h.mint hp root c k e3 e4 h3
  ·simp only [if_neg h3];refine hA (kw K root c) ?_ ?_ ?_
   ·intro e;unfold kw;rw [e]
   ·intro n i e e2;unfold kw;rw [hfk n i e];simp only [e2]
   ·intro p hp n i e e2 k e3 e4;have:kw K root c=(match az K root c.to with
     | none=>none
     | some t=>if (K.held t).isSome then some (4,K) else some (0,K.move R.L[p].slot t k)):=by
     unfold kw;rw [hfk n i e];rw [e2] at e3;simp only [e3,e2];cases az K root c.to<;>rfl
    rw [this];exact h.moves hp root c k e3 (by omega)
theorem bt2 {S:RS}{S':KS}(h:Ag S S')(th:Int)(c:Cl)(bs:List Bool)(hk:c.kind<=6\/11<c.kind):
 (p_ S th c bs).1=(py S' th c bs).1/\Ag (p_ S th c bs).2 (py S' th c bs).2/\(bs=[]->S.D=[]->(p_ S th c bs).2.D=[]):=by
 unfold p_ py;rw [h.core.rel.thr];cases hf:S.R.T.find? (af th) with
 | none=>exact ⟨rfl,h,fun _ h=>h⟩
 | some t=>
  simp only [Option.map_some,ej.thd];by_cases hs:t.state≠1
  ·rw [if_pos hs,if_pos hs];exact ⟨rfl,h,fun _ h=>h⟩
  ·rw [if_neg hs,if_neg hs];by_cases hkk:c.kind<1\/11<c.kind
   ·rw [if_pos hkk,if_pos hkk];exact ⟨rfl,h,fun _ h=>h⟩
   ·rw [if_neg hkk,if_neg hkk];by_cases hw:c.kind=1\/c.kind=5\/c.kind=6
    ·rw [if_pos hw,if_pos hw];obtain ⟨w1,w2⟩:=Ag.work F0 bs h;have wd:=xe F0 S bs (Ag.ends F0 h h.mu_le).1;have wn:bs=[]->(ao cg df F0 S bs).2=([],true):=by rintro rfl;exact ao4 _ _
     generalize hy:ao cg df F0 S bs=y at w1 w2 wd wn ⊢;generalize hy':ao bh bz F0 S' bs=y' at w1 w2 ⊢;obtain ⟨y1,yb,yo⟩:=y;obtain ⟨y1',yb',yo'⟩:=y';simp only [Prod.mk.injEq] at w1 w2 wd wn ⊢;obtain ⟨rfl,rfl⟩:=w1;cases hyo:yo with
     | false=>exact ⟨rfl,w2,fun hb _=>by have:=(wn hb).2;rw [hyo] at this;cases this⟩
     | true=>
      have hDn:y1.D=[]:=ar2.1 (wd hyo);simp only [Bool.true_eq_false,if_false];rw [w2.core.still];have hC:=w2.core;have hfind:=hC.rel.find t.root c.at_;by_cases h1:c.kind=1
      ·simp only [if_pos h1];cases hfi:bk y1.R.L y1.R.N t.root c.at_ with
       | none=>
        rw [hfi] at hfind;unfold jh;rw [hfind];exact ⟨rfl,w2,fun _ _=>hDn⟩
       | some q=>
        obtain ⟨n,i⟩:=q;rw [hfi] at hfind;simp only [Option.map_some,ta] at hfind ⊢;rcases hC.rel.idx n i with ⟨e1,e2⟩ | ⟨p,hp,e1,e2,k,e3,e4⟩
        ·rw [e1];unfold jh;rw [hfind];simp only [e2];exact ⟨rfl,w2,fun _ _=>hDn⟩
        ·rw [e1];simp only [List.getElem?_eq_getElem hp,by3 hfi];obtain ⟨g1,g2,g3⟩:=w2.retype hDn hp t.root c yb (by rw [hfind,e2]);exact ⟨g1,g2,fun _ _=>g3⟩
      ·simp only [if_neg h1];cases hfi:bk y1.R.L y1.R.N t.root c.at_ with
       | none=>
        rw [hfi] at hfind;rw [hfind];exact ⟨rfl,w2,fun _ _=>hDn⟩
       | some q=>
        obtain ⟨n,i⟩:=q;rw [hfi] at hfind;simp only [Option.map_some,ta] at hfind;rw [hfind];simp only;rcases hC.rel.idx n i with ⟨e1,e2⟩ | ⟨p,hp,e1,e2,k,e3,e4⟩
        ·rw [e1,e2];exact ⟨rfl,w2,fun _ _=>hDn⟩
        ·rw [e1,e3];simp only [List.getElem?_eq_getElem hp,Option.isNone_some];by_cases h5:c.kind=5
         ·simp only [if_pos h5,Bool.false_eq_true,if_false];obtain ⟨g1,g2,g3,g4,g5⟩:=w2.takeB hp yb;rw [e2] at g1 g2 g3;exact ⟨g1,g3,fun hb _=>(g5 (wn hb).1).2.2⟩
         ·simp only [if_neg h5,Bool.false_eq_true,if_false];obtain ⟨g1,g2,g3⟩:=Ag.revoke F1 n i yb w2 (hC.found_ok hfi).1;exact ⟨g1,g2,fun hb _=>g3 (wn hb).1 hDn⟩
    ·rw [if_neg hw,if_neg hw];obtain ⟨g1,g2⟩:=h.core.small t.root c (by omega) _ rfl;generalize hz:(match bk S.R.L S.R.N t.root c.at_ with
      | none=>((2:Int),S.R)
      | some (n,ix)=>match S.R.L.findIdx? (ee n ix) with
       | none=>(4,S.R)
       | some p=>match S.R.L[p]? with
        | none=>(0,S.R)
        | some e=>((bw S.R t.root c p e).1,{S.R with L:=(bw S.R t.root c p e).2}))=z at g1 g2
     have hz2:(match bk S.R.L S.R.N t.root c.at_ with
      | none=>((2:Int),S)
      | some (n,ix)=>match S.R.L.findIdx? (ee n ix) with
       | none=>(4,S)
       | some p=>match S.R.L[p]? with
        | none=>(0,S)
        | some e=>((bw S.R t.root c p e).1,{S with R:={S.R with L:=(bw S.R t.root c p e).2}}))=(z.1,{S with R:=z.2}):=by
      rw [<- hz];cases bk S.R.L S.R.N t.root c.at_ with
      | none=>rfl
      | some q=>
       obtain ⟨n,i⟩:=q;simp only;cases S.R.L.findIdx? (ee n i) with
       | none=>rfl
       | some p=>
        simp only;cases S.R.L[p]? with
        | none=>rfl
        | some e=>rfl
     rw [hz2];have htq:=as_ S'.K t.root c;refine ⟨g1,⟨g2,h.d,fun i hi=>?_,h.q.same htq.2.2 (fun x t e1 e2=>⟨t,?_,e2⟩)⟩,fun _ h=>h⟩
     ·rw [bj5];exact h.ws i hi
     ·show (dj S'.K (km S'.K _ c)).2.thr x=some t;rw [htq.2.1];exact e1
def cm (S:KS):Prop:=∃R:RS,Ag R S
theorem cm.step {S:KS}(h:cm S):cm (bh S):=by
 obtain ⟨R,h⟩:=h;exact ⟨_,h.step⟩
theorem cm.at {S:KS}{R:RS}(h:Ag R S){s:Slot}{c:KCap}(hc:S.K.held s=some c):∃(p:Nat) (hp:p<R.R.L.length),R.R.L[p].slot=s:=by
 by_cases hex:∃e∈R.R.L,e.slot=s
 ·obtain ⟨e,he,rfl⟩:=hex;obtain ⟨p,hp,rfl⟩:=List.getElem_of_mem he;exact ⟨p,hp,rfl⟩
 ·have:=h.core.rel.emp s (fun e he e1=>hex ⟨e,he,e1⟩);rw [hc] at this;cases this
theorem cm.take {S:KS}{s:Slot}{c:KCap}(h:cm S)(hc:S.K.held s=some c):cm (iz S s):=by
 obtain ⟨R,h⟩:=h;obtain ⟨p,hp,rfl⟩:=cm.at h hc;exact ⟨_,h.take hp⟩
theorem cm.tree {S:KS}(h:cm S):ap3 S.K:=by
 obtain ⟨R,h⟩:=h;exact h.core.rel.treeOk
theorem cm.kids {S:KS}(h:cm S){s:Slot}{x:nw}(hx:S.K.st s=some x):x.kids.length<=16384:=by
 obtain ⟨R,h⟩:=h;exact h.core.kids hx
theorem cm.sums {S:KS}(h:cm S)(a:Slot)(x:nw)(p:Slot)(y:nw)(hx:S.K.st a=some x)(hy:S.K.st p=some y):y.kids.length+x.kids.length<=1000000:=by
 have:=h.kids hx;have:=h.kids hy;omega
theorem cm.lenD {S:KS}(h:cm S):S.D.length<=1024:=by
 obtain ⟨R,h⟩:=h;rw [h.d];exact h.core.lenD
theorem cm.dm {S:KS}(h:cm S)(d:Int×Int)(hd:d∈S.D):0<=d.2/\d.2<=16:=by
 obtain ⟨R,h⟩:=h;rw [h.d] at hd;have:=h.core.dm d hd;exact ⟨this.2.2.1,this.2.2.2.1⟩
theorem cm.hen {S:KS}(h:cm S)(s:Slot)(b n r g:Int)(hc:S.K.held s=some (.endpoint b n r g)):∃q,S.K.qs b=some q:=by
 obtain ⟨R,h⟩:=h;exact h.core.hen s b n r g hc
theorem cm.qs {S:KS}(h:cm S)(e:Int)(q:List dx×List dx)(hq:S.K.qs e=some q):q.1.length<=64/\q.2.length<=64:=by
 obtain ⟨R,h⟩:=h;have h1:=h.q.few h.core;rw [h.q.qs e q hq];exact ⟨Nat.le_trans (ac8 _ _ _) h1,Nat.le_trans (ac8 _ _ _) h1⟩
theorem cm.ends {S:KS}(h:cm S):xx bh bz F0 S:=by
 obtain ⟨R,h⟩:=h;exact (h.ends F0 h.mu_le).2
noncomputable def b4_ (S:KS):KS:=(ao bh bz F0 S []).1
theorem be8 {σ:Type}{step:σ->σ}{done:σ->Bool}:∀(n:Nat) (S:σ),done S=true->ao step done n S []=(S,[],true)
 | 0,_,_=>rfl
 | n+1,S,h=>by unfold ao;rw [if_pos h]
theorem cm.reset {S:KS}{f:Slot}{b n m m':Int}(h:cm S)(hk:S.K.held f=some (.untyped b n m))(hkid:c_ S.K f=false)(h0:0<=m')(h1:m'<=m):cm ⟨ed S.K f b n m m',S.D⟩:=by
 obtain ⟨R,hA⟩:=h;obtain ⟨p,hp,rfl⟩:=cm.at hA hk;obtain ⟨hC,hD,hws,hQ⟩:=hA;obtain ⟨k,hk2,ht⟩:=hC.rel.cap _ (List.getElem_mem hp);rw [hk] at hk2;cases hk2
 simp only [KCap.told,aw.told,Prod.mk.injEq] at ht;obtain ⟨a1,a2,a3,a4,a5,a6⟩:=ht;have hcap:=hC.cap _ _ hk;simp only [KCap.base,KCap.bits,KCap.mark] at hcap;have hC1:=hC.setMark hp hk (m':=m') (.inr hkid) h0 (by omega);refine ⟨⟨{R.R with L:=R.R.L.set p {R.R.L[p] with mark:=m'}},R.D,ou R.ws (b+m') (m-m'),R.q⟩,⟨⟨hC1.rel.cap,hC1.rel.emp,hC1.rel.tree,hC1.rel.nodes,hC1.rel.thr⟩,hC1.geo,hC1.inN,hC1.dm,hC1.dn,hC1.nod,hC1.cap,hC1.hno,hC1.thd,hC1.hth,hC1.que,hC1.hen,hC1.nd,hC1.td,hC1.nb,hC1.tb,hC1.rt,hC1.dap⟩,hD,?_,hQ.same rfl (fun _ t e1 e2=>⟨t,e1,e2⟩)⟩;exact as7 hws _ _
theorem cm.retypeOk {S:KS}(h:cm S):ap1 S.K:=by
 obtain ⟨R,h⟩:=h;exact h.core.retypeOk
theorem cm.untyped {S:KS}(h:cm S){f:Slot}{b n m:Int}(hk:S.K.held f=some (.untyped b n m)):0<=b/\b<=1024/\0<=m/\m<=1024/\0<=n/\n<=10/\b+m<=1024:=by
 obtain ⟨⟨u1,u2⟩,⟨u3,u4⟩,u5,u6⟩:=h.retypeOk.u f b n m hk;obtain ⟨R,h⟩:=h;have:=h.core.cap _ _ hk;simp only [KCap.base,KCap.bits,KCap.mark] at this;omega
theorem bv6 (S:RS)(ty b bits:Int):(jd S ty b bits).ws=S.ws:=by
 unfold jd;split
 ·rfl
 ·split
  ·rfl
  ·split<;>rfl
theorem am6 (S:RS)(i:Nat)(e:aw):(ik S i e).ws=S.ws:=by
 unfold ik;split
 ·rfl
 ·rw [bv6]
theorem bc1 (S:RS)(n i:Int):(n_ S n i).ws=S.ws:=by
 unfold n_;split
 ·rfl
 ·split
  ·rfl
  ·rw [am6]
theorem am8 (S:RS):(cg S).ws=S.ws:=by
 unfold cg;split
 ·rfl
 ·split
  ·rfl
  ·rw [bc1]
theorem ac6:∀(n:Nat) (S:RS) (bs:List Bool),(ao cg df n S bs).1.ws=S.ws
 | 0,_,_=>rfl
 | n+1,S,bs=>by
  unfold ao;split
  ·rfl
  ·cases bs with
   | nil=>simp only;rw [ac6 n,am8]
   | cons b r=>
    simp only;split
    ·exact am8 S
    ·rw [ac6 n,am8]
theorem ai_ (S:RS)(p:Nat)(e:aw)(bs:List Bool):(takeB S p e bs).2.1.ws=S.ws:=by
 unfold takeB;split
 ·exact am6 _ _ _
 ·simp only;rw [ac6,am6]
theorem aj1:∀(k:Nat) (S:RS) (n i:Int) (bs:List Bool),(ew k S n i bs).2.1.ws=S.ws
 | 0,_,_,_,_=>rfl
 | k+1,S,n,i,bs=>by
  unfold ew;split
  ·rfl
  ·split
   ·rfl
   ·split
    ·rfl
    ·split
     ·rfl
     ·split
      ·rw [aj1 k,ai_]
      ·exact ai_ _ _ _ _
theorem bb2 (S:RS)(root:Int)(c:Cl)(p:Nat)(e:aw)(bs:List Bool)(j:Nat):(j0 S root c p e bs).2.ws j=S.ws j\/(j0 S root c p e bs).2.ws j=0:=by
 have hc:∀m,(fy S p e m).ws j=S.ws j\/(fy S p e m).ws j=0:=fun m=>by
  show ou S.ws (e.base+m) (e.mark-m) j=_\/ou S.ws (e.base+m) (e.mark-m) j=0;unfold ou;split
  ·exact .inr rfl
  ·exact .inl rfl
 unfold j0;split
 ·exact .inl rfl
 ·split
  ·exact .inl rfl
  ·split
   ·exact .inl rfl
   ·split
    ·exact .inl rfl
    ·split
     ·exact .inl rfl
     ·split
      ·split
       ·exact hc _
       ·exact hc _
      ·exact .inl rfl
theorem b29 (S:RS)(b:Int)(c:Cl)(bs:List Bool)(j:Nat):(p_ S b c bs).2.ws j=S.ws j\/(p_ S b c bs).2.ws j=0:=by
 have hy:=ac6 F0 S bs;unfold p_;generalize ao cg df F0 S bs=y at hy;obtain ⟨S1,bs1,ok⟩:=y;simp only at hy;simp only;cases S.R.T.find? (af b) with
 | none=>exact .inl rfl
 | some t=>
  simp only;by_cases h1:t.state≠1
  ·rw [if_pos h1];exact .inl rfl
  ·rw [if_neg h1];by_cases h2:c.kind<1\/11<c.kind
   ·rw [if_pos h2];exact .inl rfl
   ·rw [if_neg h2];by_cases h3:c.kind=1\/c.kind=5\/c.kind=6
    ·rw [if_pos h3];by_cases h4:ok=false
     ·rw [if_pos h4];exact .inl (by rw [hy])
     ·rw [if_neg h4];cases bk S1.R.L S1.R.N (fx S1.R.N t.root) c.at_ with
      | none=>exact .inl (by rw [hy])
      | some q=>
       obtain ⟨n,ix⟩:=q;simp only;cases S1.R.L.findIdx? (ee n ix) with
       | none=>
        simp only;by_cases h5:c.kind=1
        ·rw [if_pos h5];exact .inl (by rw [hy])
        ·rw [if_neg h5];exact .inl (by rw [hy])
       | some p=>
        simp only;cases S1.R.L[p]? with
        | none=>exact .inl (by rw [hy])
        | some e=>
         simp only;by_cases h5:c.kind=1
         ·rw [if_pos h5];have:=bb2 S1 (fx S1.R.N t.root) c p e bs1 j;rw [hy] at this;exact this
         ·rw [if_neg h5];by_cases h6:c.kind=5
          ·rw [if_pos h6];exact .inl (by rw [ai_,hy])
          ·rw [if_neg h6];exact .inl (by rw [aj1,hy])
    ·rw [if_neg h3];cases bk S.R.L S.R.N t.root c.at_ with
     | none=>exact .inl rfl
     | some q=>
      obtain ⟨n,ix⟩:=q;simp only;cases S.R.L.findIdx? (ee n ix) with
      | none=>exact .inl rfl
      | some p=>
       simp only;cases S.R.L[p]? with
       | none=>exact .inl rfl
       | some e=>exact .inl rfl
end Go.Proofs.YtdpjgflemddekaaGreatDoor

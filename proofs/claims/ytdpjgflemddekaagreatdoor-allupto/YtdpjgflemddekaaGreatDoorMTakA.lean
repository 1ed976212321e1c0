/- What is taken away, and what is doomed, as plain functions: the document's and the code's. Nothing of the program's text. -/
import Derived.Test.YtdpjgflemddekaaGreatDoorMInvB
namespace Go.Proofs.YtdpjgflemddekaaGreatDoor
structure RS where
 R:Ref
 D:List (Int×Int)
 ws:Nat->Int
 q:List Wt
def sameE (ty b:Int)(e:Ent):Bool:=e.ty==ty && e.base==b
def noRootT (b:Int)(t:Thr):Thr:=if t.root=b then {t with root:=-1} else t
def goneR (S:RS)(ty b bits:Int):RS:=
 if ty=2 then {S with R:={S.R with N:=S.R.N.filter (fun l=>!aq b l),T:=S.R.T.map (noRootT b)},D:=S.D++[(b,pw (bits-2).toNat)]}
 else if ty=3 then {S with R:={S.R with T:=(S.q.foldl (tellR b) (S.R.T,S.q)).1},q:=(S.q.foldl (tellR b) (S.R.T,S.q)).2}
 else if ty=4 then {S with R:={S.R with T:=S.R.T.filter (fun t=>!af b t)},q:=outQ b S.q}
 else S
def takeR (S:RS)(i:Nat)(e:Ent):RS:=
 if (cy S.R.L i e.up).any (sameE e.ty e.base) then {S with R:={S.R with L:=cy S.R.L i e.up}}
 else goneR {S with R:={S.R with L:=cy S.R.L i e.up}} e.ty e.base e.bits
def takeAtR (S:RS)(n i:Int):RS:=
 match S.R.L.findIdx? (cz n i) with
 | none=>S
 | some p=>match S.R.L[p]? with
  | none=>S
  | some e=>takeR S p e
def bp (S:RS):RS:=
 match S.D.getLast? with
 | none=>S
 | some (nd,left)=>if left=0 then {S with D:=S.D.dropLast} else takeAtR {S with D:=S.D.dropLast++[(nd,left-1)]} nd (left-1)
def aj {σ:Type}(step:σ->σ)(done:σ->Bool):Nat->σ->List Bool->σ×List Bool×Bool
 | 0,S,bs=>(S,bs,true)
 | n+1,S,bs=>if done S then (S,bs,true) else
  match bs with
  | []=>aj step done n (step S) []
  | b :: r=>if b then (step S,r,false) else aj step done n (step S) r
def Ends {σ:Type}(step:σ->σ)(done:σ->Bool):Nat->σ->Prop
 | 0,S=>done S=true
 | n+1,S=>done S=true\/Ends step done n (step S)
def cf (S:RS):Bool:=S.D.isEmpty
structure KS where
 K:Ker
 D:List (Int×Int)
def a_ (S:KS):Bool:=S.D.isEmpty
def heldK (K:Ker)(ty b:Int):Prop:=∃s c,K.held s=some c/\c.ty=ty/\c.base=b
def noRoot (b:Int)(t:Thd):Thd:=if t.root=b then {t with root:=-1} else t
def toldGone (T:Int->Option Thd)(w:Wtr):Int->Option Thd:=upd T w.thread (some ⟨1,((T w.thread).getD ⟨0,0,0,0,0⟩).root,0,0,9⟩)
def leaveQ (b:Int)(q:List Wtr×List Wtr):List Wtr×List Wtr:=(q.1.filter (fun w=>w.thread≠b),q.2.filter (fun w=>w.thread≠b))
def doomK (K:Ker)(b:Int):Ker:={K with nodes:=upd K.nodes b none,thr:=fun t=>(K.thr t).map (noRoot b)}
def endK (K:Ker)(b:Int):Ker:={K with thr:=upd K.thr b none,qs:=fun e=>(K.qs e).map (leaveQ b)}
def abandonK (K:Ker)(b:Int):Ker:={K with qs:=upd K.qs b none,thr:=(((K.qs b).getD ([],[])).1++((K.qs b).getD ([],[])).2).foldl toldGone K.thr}
def goneK (S:KS)(c:KCap):KS:=
 match c with
 | .node b _ _=>⟨doomK S.K b,S.D++[(b,bj S.K b)]⟩
 | .task b _ _=>⟨endK S.K b,S.D⟩
 | .endpoint b _ _ _=>⟨abandonK S.K b,S.D⟩
 | _=>S
def outK (K:Ker)(s:Slot):Ker:={K with held:=upd K.held s none,st:=removeT K.st s}
open Classical in
noncomputable def ci (S:KS)(s:Slot):KS:=
 match S.K.held s with
 | none=>S
 | some c=>if heldK (outK S.K s) c.ty c.base then ⟨outK S.K s,S.D⟩ else goneK ⟨outK S.K s,S.D⟩ c
theorem takeK_held {S:KS}{s:Slot}{c:KCap}(hc:S.K.held s=some c)(hh:heldK (outK S.K s) c.ty c.base):ci S s=⟨outK S.K s,S.D⟩:=by
 unfold ci;rw [hc];simp only;rw [if_pos hh]
theorem takeK_gone {S:KS}{s:Slot}{c:KCap}(hc:S.K.held s=some c)(hh:¬heldK (outK S.K s) c.ty c.base):ci S s=goneK ⟨outK S.K s,S.D⟩ c:=by
 unfold ci;rw [hc];simp only;rw [if_neg hh]
theorem takeK_none {S:KS}{s:Slot}(hc:S.K.held s=none):ci S s=S:=by
 unfold ci;rw [hc]
noncomputable def ay (S:KS):KS:=
 match S.D.getLast? with
 | none=>S
 | some (nd,left)=>if left=0 then {S with D:=S.D.dropLast} else ci {S with D:=S.D.dropLast++[(nd,left-1)]} ⟨nd,left-1⟩
structure Ag (S:RS)(S':KS):Prop where
 core:Core S.R S'.K S.D
 d:S'.D=S.D
 ws:∀i,i<1024->S.ws i=S'.K.ws i
 q:QAg S.q S'.K
theorem find_filter {N:List Liv}{b x:Int}(h:x≠b):(N.filter (fun l=>!aq b l)).find? (aq x)=N.find? (aq x):=by
 induction N with
 | nil=>rfl
 | cons l N ih=>
  by_cases h1:aq b l=true
  ·have h2:aq x l=false:=by
    simp only [aq,beq_iff_eq] at h1;simp only [aq,h1,beq_eq_false_iff_ne];exact Ne.symm h
   rw [List.filter_cons_of_neg (by simp [h1]),ih,List.find?_cons_of_neg (by simp [h2])]
  ·rw [List.filter_cons_of_pos (by simpa using h1)];by_cases h2:aq x l=true
   ·rw [List.find?_cons_of_pos h2,List.find?_cons_of_pos h2]
   ·rw [List.find?_cons_of_neg h2,List.find?_cons_of_neg h2,ih]
theorem find_filter_none {N:List Liv}{b:Int}:(N.filter (fun l=>!aq b l)).find? (aq b)=none:=by
 rw [List.find?_eq_none];intro x hx h;have:=(List.mem_filter.1 hx).2;simp [h] at this
theorem findT_filter {N:List Thr}{b x:Int}(h:x≠b):(N.filter (fun l=>!af b l)).find? (af x)=N.find? (af x):=by
 induction N with
 | nil=>rfl
 | cons l N ih=>
  by_cases h1:af b l=true
  ·have h2:af x l=false:=by
    simp only [af,beq_iff_eq] at h1;simp only [af,h1,beq_eq_false_iff_ne];exact Ne.symm h
   rw [List.filter_cons_of_neg (by simp [h1]),ih,List.find?_cons_of_neg (by simp [h2])]
  ·rw [List.filter_cons_of_pos (by simpa using h1)];by_cases h2:af x l=true
   ·rw [List.find?_cons_of_pos h2,List.find?_cons_of_pos h2]
   ·rw [List.find?_cons_of_neg h2,List.find?_cons_of_neg h2,ih]
theorem findT_filter_none {N:List Thr}{b:Int}:(N.filter (fun l=>!af b l)).find? (af b)=none:=by
 rw [List.find?_eq_none];intro x hx h;have:=(List.mem_filter.1 hx).2;simp [h] at this
theorem noRootT_base (b:Int)(t:Thr):(noRootT b t).base=t.base:=by unfold noRootT;split<;>rfl
theorem noRootT_thd (b:Int)(t:Thr):(noRootT b t).thd=noRoot b t.thd:=by unfold noRootT noRoot Thr.thd;split<;>rfl
theorem findT_map (b x:Int):∀T:List Thr,(T.map (noRootT b)).find? (af x)=(T.find? (af x)).map (noRootT b)
 | []=>rfl
 | t :: T=>by
  have e:af x (noRootT b t)=af x t:=by unfold af;rw [noRootT_base]
  rw [List.map_cons];by_cases h:af x t=true
  ·rw [List.find?_cons_of_pos (by rw [e];exact h),List.find?_cons_of_pos h];rfl
  ·rw [List.find?_cons_of_neg (by rw [e];exact h),List.find?_cons_of_neg h,findT_map b x T]
theorem told_fold:∀(l:List Wtr) (T:Int->Option Thd) (x:Int),(l.foldl toldGone T) x=if x∈l.map Wtr.thread then some ⟨1,((T x).getD ⟨0,0,0,0,0⟩).root,0,0,9⟩ else T x
 | [],_,_=>rfl
 | w :: l,T,x=>by
  rw [List.foldl_cons,told_fold l];unfold toldGone;by_cases e:x=w.thread
  ·subst e;rw [ah,if_pos (by simp:w.thread∈(w :: l).map Wtr.thread)];split<;>rfl
  ·rw [ae _ _ e];by_cases e2:x∈l.map Wtr.thread
   ·rw [if_pos e2,if_pos (by simp only [List.map_cons,List.mem_cons];exact .inr e2)]
   ·rw [if_neg e2,if_neg (by simp only [List.map_cons,List.mem_cons,not_or];exact ⟨e,e2⟩)]
theorem side_told {b:Int}{q:List Wt}{x:Int}:x∈(side true b q++side false b q).map Wtr.thread ↔ toldAt b q x:=by
 simp only [side,List.map_append,List.map_map,List.mem_append,List.mem_map,List.mem_filter,Function.comp,Wt.w,Bool.and_eq_true,beq_iff_eq,toldAt];constructor
 ·rintro (⟨w,⟨h1,h2,_⟩,h3⟩ | ⟨w,⟨h1,h2,_⟩,h3⟩)<;>exact ⟨w,h1,h2,h3⟩
 ·rintro ⟨w,h1,h2,h3⟩;cases hs:w.send with
  | true=>exact .inl ⟨w,⟨h1,h2,hs⟩,h3⟩
  | false=>exact .inr ⟨w,⟨h1,h2,hs⟩,h3⟩
open Classical in
theorem QAg.abThr {q:List Wt}{K:Ker}(h:QAg q K){b:Int}{y:List Wtr×List Wtr}(hb:K.qs b=some y)(x:Int):
 (abandonK K b).thr x=if toldAt b q x then some ⟨1,((K.thr x).getD ⟨0,0,0,0,0⟩).root,0,0,9⟩ else K.thr x:=by
 show ((((K.qs b).getD ([],[])).1++((K.qs b).getD ([],[])).2).foldl toldGone K.thr) x=_;rw [told_fold,hb,h.qs b y hb];simp only [Option.getD_some];by_cases e:toldAt b q x
 ·rw [if_pos (side_told.2 e),if_pos e]
 ·rw [if_neg (fun g=>e (side_told.1 g)),if_neg e]
theorem QAg.abSome {q:List Wt}{K:Ker}(h:QAg q K){b:Int}{y:List Wtr×List Wtr}(hb:K.qs b=some y)(x:Int):(∃t,(abandonK K b).thr x=some t) ↔ ∃t,K.thr x=some t:=by
 rw [h.abThr hb];by_cases e:toldAt b q x
 ·rw [if_pos e];obtain ⟨w,hw,_,rfl⟩:=e;obtain ⟨t,ht,_⟩:=h.th w hw;exact ⟨fun _=>⟨t,ht⟩,fun _=>⟨_,rfl⟩⟩
 ·rw [if_neg e]
theorem QAg.abandoned {q:List Wt}{K:Ker}(h:QAg q K){b:Int}{y:List Wtr×List Wtr}(hb:K.qs b=some y)(T:List Thr):QAg (q.foldl (tellR b) (T,q)).2 (abandonK K b):=by
 rw [tell_left h.nd];have hq:(abandonK K b).qs=upd K.qs b none:=rfl;refine ⟨fun e z hz=>?_,fun w hw=>?_,fun w hw=>?_,(List.filter_sublist.map _).nodup h.nd⟩
 ·rw [hq] at hz;have hne:e≠b:=fun e1=>by rw [e1,ah] at hz;cases hz
  rw [ae _ _ hne] at hz;rw [h.qs e z hz];have:∀s,side s e (q.filter (fun w=>w.endp≠b))=side s e q:=fun s=>by
   unfold side;rw [List.filter_filter];congr 1;apply List.filter_congr;intro w _;by_cases e2:w.endp=e
   ·simp [e2,hne]
   ·simp [e2]
  rw [this,this]
 ·obtain ⟨h1,h2⟩:=List.mem_filter.1 hw;obtain ⟨z,hz⟩:=h.en w h1;exact ⟨z,by rw [hq,ae _ _ (by simpa using h2)];exact hz⟩
 ·obtain ⟨h1,h2⟩:=List.mem_filter.1 hw;obtain ⟨t,e1,e2⟩:=h.th w h1;refine ⟨t,?_,e2⟩;rw [h.abThr hb,if_neg]
  ·exact e1
  ·rintro ⟨v,hv,g1,g2⟩;have:=uniq_thread h.nd hv h1 g2;subst this;simp [g1] at h2
open Classical in
theorem QAg.abRel {q:List Wt}{K:Ker}(h:QAg q K){b:Int}{y:List Wtr×List Wtr}(hb:K.qs b=some y){T:List Thr}(hT:∀x,K.thr x=(T.find? (af x)).map Thr.thd)(x:Int):
 (abandonK K b).thr x=((q.foldl (tellR b) (T,q)).1.find? (af x)).map Thr.thd:=by
 rw [h.abThr hb,tell_find,hT x];by_cases e:toldAt b q x
 ·rw [if_pos e,if_pos e];obtain ⟨w,hw,_,rfl⟩:=e;obtain ⟨t,ht,_⟩:=h.th w hw;rw [hT] at ht;simp only;cases hf:T.find? (af w.thread) with
  | none=>rw [hf] at ht;cases ht
  | some z=>rfl
 ·rw [if_neg e,if_neg e]
theorem Ag.take {S:RS}{S':KS}(h:Ag S S'){p:Nat}(hp:p<S.R.L.length):Ag (takeR S p S.R.L[p]) (ci S' S.R.L[p].slot):=by
 obtain ⟨hC,hD,hws,hQ⟩:=h;obtain ⟨K,D⟩:=S';obtain ⟨R,D',ws,q0⟩:=S;simp only at hC hD hws hQ hp ⊢;subst hD;obtain ⟨c,hc,ht⟩:=hC.rel.cap _ (List.getElem_mem hp);have hty:=told_type ht;obtain ⟨hba,hbi,_⟩:=told_base ht;generalize hL:cy R.L p R.L[p].up=L' at *
 have hrel:=hC.rel.take hp;rw [hL] at hrel;obtain ⟨F,hF⟩:=hC.rel.tree;obtain ⟨_,_,_,⟨x,hout⟩,honly⟩:=hF.take hp;generalize hs0:R.L[p].slot=s0 at *
 have hsn:s0≠nowhere:=slot_ne_nowhere (hC.inN _ _ hc).1;have hgeo:Geo (upd K.held s0 none) (removeT K.st s0):=by
  refine hC.geo.take hc hsn hout ?_ (hC.cap _ _ hc).2.2.2.2.2;intro t y htn hy;obtain ⟨h1,h2⟩:=honly t y hy;refine ⟨h1,?_⟩;rcases h2 with h2 | h2
  ·obtain ⟨z,hz,_⟩:=hF.stands.fact hF.nodup t h2;exact ⟨z,hz⟩
  ·exact absurd h2 htn
 have hold:∀s c',upd K.held s0 none s=some c'->s≠s0/\K.held s=some c':=by
  intro s c' h1;by_cases e:s=s0
  ·rw [e,ah] at h1;cases h1
  ·rw [ae _ _ e] at h1;exact ⟨e,h1⟩
 have hkeep:∀s c',s≠s0->K.held s=some c'->upd K.held s0 none s=some c':=fun s c' h1 h2=>by rw [ae _ _ h1];exact h2
 have hany:L'.any (sameE R.L[p].ty R.L[p].base)=true ↔ heldK (outK K s0) c.ty c.base:=by
  rw [List.any_eq_true];constructor
  ·rintro ⟨e,he,h1⟩;obtain ⟨c',e1,e2⟩:=hrel.cap e he;simp only [sameE,Bool.and_eq_true,beq_iff_eq] at h1;exact ⟨e.slot,c',e1,by rw [told_type e2,h1.1,hty],by rw [(told_base e2).1,h1.2,hba]⟩
  ·rintro ⟨s,c',h1,h2,h3⟩;by_cases hex:∃e∈L',e.slot=s
   ·obtain ⟨e,he,rfl⟩:=hex;obtain ⟨c2,e1,e2⟩:=hrel.cap e he;have:some c2=some c':=e1.symm.trans h1;cases this
    exact ⟨e,he,by simp only [sameE,Bool.and_eq_true,beq_iff_eq];exact ⟨by rw [<- told_type e2,h2,hty],by rw [<- (told_base e2).1,h3,hba]⟩⟩
   ·have:=hrel.emp s (fun e he e1=>hex ⟨e,he,e1⟩);have h1':upd K.held s0 none s=some c':=h1;rw [show upd K.held s0 none s=none from this] at h1';cases h1'
 have hTR:takeR ⟨R,D,ws,q0⟩ p R.L[p]=if L'.any (sameE R.L[p].ty R.L[p].base) then ⟨{R with L:=L'},D,ws,q0⟩ else goneR ⟨{R with L:=L'},D,ws,q0⟩ R.L[p].ty R.L[p].base R.L[p].bits:=by
  unfold takeR;simp only [hL]
 have hinN:∀s c',upd K.held s0 none s=some c'->0<=s.index/\(s.index<bj K s.node\/∃d∈D,d.1=s.node/\s.index<d.2):=fun s c' h1=>hC.inN s c' (hold s c' h1).2
 have hcap:=fun s c' (h1:upd K.held s0 none s=some c')=>hC.cap s c' (hold s c' h1).2
 have hrt:=fun s c' (h1:upd K.held s0 none s=some c')=>hC.rt s c' (hold s c' h1).2
 have hdap:=fun d (hd:d∈D) s c' (h1:upd K.held s0 none s=some c') (hu:c'.isU=false)=>hC.dap d hd s c' (hold s c' h1).2 hu
 have hQ0:QAg q0 (outK K s0):=hQ.same rfl (fun _ t e1 e2=>⟨t,e1,e2⟩);have hhno:=fun s b n r (h1:upd K.held s0 none s=some (.node b n r))=>hC.hno s b n r (hold s _ h1).2
 have hhth:=fun s b n r (h1:upd K.held s0 none s=some (.task b n r))=>hC.hth s b n r (hold s _ h1).2
 have hhen:=fun s b n r g (h1:upd K.held s0 none s=some (.endpoint b n r g))=>hC.hen s b n r g (hold s _ h1).2
 -- of an object that is not the one taken,a capability is left
 have hnod:∀b y,K.nodes b=some y->(c.ty≠2\/c.base≠b)->∃s n r,upd K.held s0 none s=some (.node b n r):=by
  intro b y hy hne;obtain ⟨_,_,_,s,n,r,g⟩:=hC.nod b y hy;refine ⟨s,n,r,hkeep _ _ (fun e=>?_) g⟩;rw [e,hc] at g;cases g;rcases hne with h1 | h1<;>exact h1 rfl
 have hthd:∀b y,K.thr b=some y->(c.ty≠4\/c.base≠b)->∃s n r,upd K.held s0 none s=some (.task b n r):=by
  intro b y hy hne;obtain ⟨s,n,r,g⟩:=hC.thd b y hy;refine ⟨s,n,r,hkeep _ _ (fun e=>?_) g⟩;rw [e,hc] at g;cases g;rcases hne with h1 | h1<;>exact h1 rfl
 have hque:∀b y,K.qs b=some y->(c.ty≠3\/c.base≠b)->∃s n r g,upd K.held s0 none s=some (.endpoint b n r g):=by
  intro b y hy hne;obtain ⟨s,n,r,q,g⟩:=hC.que b y hy;refine ⟨s,n,r,q,hkeep _ _ (fun e=>?_) g⟩;rw [e,hc] at g;cases g;rcases hne with h1 | h1<;>exact h1 rfl
 rw [hTR];by_cases hh:heldK (outK K s0) c.ty c.base
 ·rw [if_pos (hany.2 hh),takeK_held hc hh];refine ⟨⟨hrel,hgeo,hinN,hC.dm,hC.dn,?_,hcap,hhno,?_,hhth,?_,hhen,hC.nd,hC.td,hC.nb,hC.tb,hrt,hdap⟩,rfl,hws,hQ0⟩
  ·intro b y hy;obtain ⟨g1,g2,g3,_⟩:=hC.nod b y hy;refine ⟨g1,g2,g3,?_⟩;by_cases hne:c.ty≠2\/c.base≠b
   ·exact hnod b y hy hne
   ·obtain ⟨s,c',h1,h2,h3⟩:=hh;rw [not_or,Decidable.not_not,Decidable.not_not] at hne;rw [hne.1] at h2;rw [hne.2] at h3;cases c'<;>simp only [KCap.ty] at h2<;>first | omega | skip
    simp only [KCap.base] at h3;subst h3;exact ⟨s,_,_,h1⟩
  ·intro b y hy;by_cases hne:c.ty≠4\/c.base≠b
   ·exact hthd b y hy hne
   ·obtain ⟨s,c',h1,h2,h3⟩:=hh;rw [not_or,Decidable.not_not,Decidable.not_not] at hne;rw [hne.1] at h2;rw [hne.2] at h3;cases c'<;>simp only [KCap.ty] at h2<;>first | omega | skip
    simp only [KCap.base] at h3;subst h3;exact ⟨s,_,_,h1⟩
  ·intro b y hy;by_cases hne:c.ty≠3\/c.base≠b
   ·exact hque b y hy hne
   ·obtain ⟨s,c',h1,h2,h3⟩:=hh;rw [not_or,Decidable.not_not,Decidable.not_not] at hne;rw [hne.1] at h2;rw [hne.2] at h3;cases c'<;>simp only [KCap.ty] at h2<;>first | omega | skip
    simp only [KCap.base] at h3;subst h3;exact ⟨s,_,_,_,h1⟩
 ·rw [if_neg (fun e=>hh (hany.1 e)),takeK_gone hc hh]
  rw [<- hty,<- hba,<- hbi];have hnh:∀s c',upd K.held s0 none s=some c'->c'.ty=c.ty->c'.base≠c.base:=fun s c' h1 h2 h3=>hh ⟨s,c',h1,h2,h3⟩
  cases c with
  | untyped b n m=>
   refine ⟨⟨hrel,hgeo,hinN,hC.dm,hC.dn,?_,hcap,hhno,?_,hhth,?_,hhen,hC.nd,hC.td,hC.nb,hC.tb,hrt,hdap⟩,rfl,hws,hQ0⟩
   ·intro b y hy;obtain ⟨g1,g2,g3,_⟩:=hC.nod b y hy;exact ⟨g1,g2,g3,hnod b y hy (.inl (by simp [KCap.ty]))⟩
   ·intro b y hy;exact hthd b y hy (.inl (by simp [KCap.ty]))
   ·intro b y hy;exact hque b y hy (.inl (by simp [KCap.ty]))
  | frame b n m=>
   refine ⟨⟨hrel,hgeo,hinN,hC.dm,hC.dn,?_,hcap,hhno,?_,hhth,?_,hhen,hC.nd,hC.td,hC.nb,hC.tb,hrt,hdap⟩,rfl,hws,hQ0⟩
   ·intro b y hy;obtain ⟨g1,g2,g3,_⟩:=hC.nod b y hy;exact ⟨g1,g2,g3,hnod b y hy (.inl (by simp [KCap.ty]))⟩
   ·intro b y hy;exact hthd b y hy (.inl (by simp [KCap.ty]))
   ·intro b y hy;exact hque b y hy (.inl (by simp [KCap.ty]))
  | endpoint b n r g=>
   obtain ⟨yq,hq⟩:=hC.hen _ _ _ _ _ hc;have hsome:=hQ0.abSome (b:=b) hq;show Ag ⟨{R with L:=L',T:=(q0.foldl (tellR b) (R.T,q0)).1},D,ws,(q0.foldl (tellR b) (R.T,q0)).2⟩ ⟨abandonK (outK K s0) b,D⟩;refine ⟨⟨⟨hrel.cap,hrel.emp,hrel.tree,hrel.nodes,hQ0.abRel hq hC.rel.thr⟩,hgeo,hinN,hC.dm,hC.dn,?_,hcap,hhno,?_,?_,?_,?_,hC.nd,?_,hC.nb,?_,hrt,hdap⟩,rfl,hws,hQ0.abandoned hq _⟩
   ·intro b y hy;obtain ⟨g1,g2,g3,_⟩:=hC.nod b y hy;exact ⟨g1,g2,g3,hnod b y hy (.inl (by simp [KCap.ty]))⟩
   ·intro b' y hy;obtain ⟨t0,ht0⟩:=(hsome b').1 ⟨y,hy⟩;exact hthd b' t0 ht0 (.inl (by simp [KCap.ty]))
   ·intro s b' n' r' h1;exact (hsome b').2 (hhth s b' n' r' h1)
   ·intro b' y hy;by_cases e:b'=b
    ·have hy':upd K.qs b none b'=some y:=hy;rw [e,ah] at hy';cases hy'
    ·have hy':upd K.qs b none b'=some y:=hy;rw [ae _ _ e] at hy';exact hque b' y hy' (.inr (by simp only [KCap.base];exact Ne.symm e))
   ·intro s b' n' r' g' h1;have:=hnh s _ h1 rfl;simp only [KCap.base] at this;obtain ⟨z,hz⟩:=hhen _ _ _ _ _ h1;exact ⟨z,by show upd K.qs b none b'=_;rw [ae _ _ this];exact hz⟩
   ·show ((q0.foldl (tellR b) (R.T,q0)).1.map Thr.base).Nodup;rw [tell_base];exact hC.td
   ·intro t ht;have:t.base∈(q0.foldl (tellR b) (R.T,q0)).1.map Thr.base:=List.mem_map.2 ⟨t,ht,rfl⟩;rw [tell_base] at this;obtain ⟨t',h1,h2⟩:=List.mem_map.1 this;rw [<- h2];exact hC.tb t' h1
  | task b n r=>
   show Ag ⟨{R with L:=L',T:=R.T.filter (fun t=>!af b t)},D,ws,outQ b q0⟩ ⟨endK (outK K s0) b,D⟩;refine ⟨⟨⟨hrel.cap,hrel.emp,hrel.tree,hrel.nodes,?_⟩,hgeo,hinN,hC.dm,hC.dn,?_,hcap,hhno,?_,?_,?_,?_,hC.nd,?_,hC.nb,?_,hrt,hdap⟩,rfl,hws,hQ0.ended b rfl (fun x hx=>ae _ _ hx)⟩
   ·intro x;show upd K.thr b none x=_;by_cases e:x=b
    ·rw [e,ah,findT_filter_none];rfl
    ·rw [ae _ _ e,findT_filter e];exact hC.rel.thr x
   ·intro b y hy;obtain ⟨g1,g2,g3,_⟩:=hC.nod b y hy;exact ⟨g1,g2,g3,hnod b y hy (.inl (by simp [KCap.ty]))⟩
   ·intro b' y hy;have hy':upd K.thr b none b'=some y:=hy;by_cases e:b'=b
    ·rw [e,ah] at hy';cases hy'
    ·rw [ae _ _ e] at hy';exact hthd b' y hy' (.inr (by simp only [KCap.base];exact Ne.symm e))
   ·intro s b' n' r' h1;have:=hnh s _ h1 rfl;simp only [KCap.base] at this;obtain ⟨t,ht⟩:=hhth _ _ _ _ h1;exact ⟨t,by show upd K.thr b none b'=_;rw [ae _ _ this];exact ht⟩
   ·intro b' y hy;have hy':(K.qs b').map (leaveQ b)=some y:=hy;cases hk:K.qs b' with
    | none=>rw [hk] at hy';cases hy'
    | some z=>exact hque b' z hk (.inl (by simp [KCap.ty]))
   ·intro s b' n' r' g' h1;obtain ⟨z,hz⟩:=hhen _ _ _ _ _ h1;exact ⟨leaveQ b z,by show (K.qs b').map (leaveQ b)=_;rw [hz];rfl⟩
   ·exact (List.filter_sublist.map _).nodup hC.td
   ·intro t ht;exact hC.tb t (List.mem_filter.1 ht).1
  | node b n r=>
   obtain ⟨n3,n6,hnb⟩:=hC.hno _ _ _ _ hc;obtain ⟨q1,q2⟩:=pw_quarter n3 n6;have hI:bj K b=pw (n-2).toNat:=by unfold bj;rw [hnb];show pw n.toNat / 4=_;rw [q1];simp [pw]
   obtain ⟨b0,b1,b2,_⟩:=hC.nod b _ hnb;have hpos:=pw_pos (n-2).toNat;have hle:bj K b<=16:=nodesI_le hC b;have hbD:b∉D.map Prod.fst:=by
    intro e;obtain ⟨d,hd,e1⟩:=List.mem_map.1 e;have:=(hC.dm d hd).2.2.2.2;rw [e1,hnb] at this;cases this
   show Ag ⟨{L:=L',N:=R.N.filter (fun l=>!aq b l),T:=R.T.map (noRootT b)},D++[(b,pw (n-2).toNat)],ws,q0⟩ ⟨doomK (outK K s0) b,D++[(b,bj K b)]⟩;rw [hI];have hdap2:∀d∈D++[(b,pw (n-2).toNat)],∀s c',upd K.held s0 none s=some c'->c'.isU=false->c'.base+pw c'.bits.toNat<=d.1\/d.1+8<=c'.base:=by
    intro d hd s c' h1 hu;rcases List.mem_append.1 hd with h2 | h2
    ·exact hdap d h2 s c' h1 hu
    ·simp at h2;subst h2;obtain ⟨e1,e2⟩:=hold s c' h1;have h8:8<=pw n.toNat:=by
      have:8=pw 3:=rfl;rw [this];exact pw_mono (by omega)
     rcases hC.geo.apart s s0 c' _ e1 e2 hc with g | g | g | g
     ·have g:c'.base+pw c'.bits.toNat<=b\/b+pw n.toNat<=c'.base:=g;rcases g with g | g
      ·exact .inl g
      ·exact .inr (by show b+8<=_;omega)
     ·exact absurd g.2.2.1 (hnh s c' h1 g.2.1)
     ·rw [hu] at g;cases g.1
     ·cases g.1
   refine ⟨⟨⟨hrel.cap,hrel.emp,hrel.tree,?_,?_⟩,hgeo,?_,?_,?_,?_,hcap,?_,?_,?_,?_,hhen,?_,?_,?_,?_,hrt,hdap2⟩,rfl,hws,?_⟩
   ·intro x;show (upd K.nodes b none x).getD 0=az (R.N.filter (fun l=>!aq b l)) x;unfold az;by_cases e:x=b
    ·rw [e,ah,find_filter_none];rfl
    ·rw [ae _ _ e,find_filter e];have:=hC.rel.nodes x;unfold az at this;exact this
   ·intro x;show (K.thr x).map (noRoot b)=_;rw [findT_map,hC.rel.thr x];cases R.T.find? (af x) with
    | none=>rfl
    | some t=>simp only [Option.map_some,noRootT_thd]
   ·intro s c' h1;obtain ⟨g1,g2⟩:=hinN s c' h1;refine ⟨g1,?_⟩;rcases g2 with g2 | ⟨d,hd,g2,g3⟩
    ·by_cases e:s.node=b
     ·right;refine ⟨(b,pw (n-2).toNat),by simp,e.symm,?_⟩;show s.index<pw (n-2).toNat;rw [<- hI,<- e];exact g2
     ·left;show s.index<(upd K.nodes b none s.node).getD 0;rw [ae _ _ e];exact g2
    ·exact .inr ⟨d,by simp [hd],g2,g3⟩
   ·intro d hd;rcases List.mem_append.1 hd with h1 | h1
    ·obtain ⟨g1,g2,g3,g4,g5⟩:=hC.dm d h1;refine ⟨g1,g2,g3,g4,?_⟩;show upd K.nodes b none d.1=none;by_cases e:d.1=b
     ·rw [e,ah]
     ·rw [ae _ _ e];exact g5
    ·simp at h1;subst h1;exact ⟨b0,b1,by dsimp only;omega,by dsimp only;omega,ah _ _ _⟩
   ·rw [List.map_append];exact nodup_snoc hC.dn hbD
   ·intro b' y hy;have hy':upd K.nodes b none b'=some y:=hy;by_cases e:b'=b
    ·rw [e,ah] at hy';cases hy'
    ·rw [ae _ _ e] at hy';obtain ⟨g1,g2,g3,_⟩:=hC.nod b' y hy';exact ⟨g1,g2,g3,hnod b' y hy' (.inr (by simp only [KCap.base];exact Ne.symm e))⟩
   ·intro s b' n' r' h1;have:=hnh s _ h1 rfl;simp only [KCap.base] at this;obtain ⟨g1,g2,g3⟩:=hhno _ _ _ _ h1;exact ⟨g1,g2,by show upd K.nodes b none b'=_;rw [ae _ _ this];exact g3⟩
   ·intro b' y hy;have hy':(K.thr b').map (noRoot b)=some y:=hy;cases ht:K.thr b' with
    | none=>rw [ht] at hy';cases hy'
    | some t=>exact hthd b' t ht (.inl (by simp [KCap.ty]))
   ·intro s b' n' r' h1;obtain ⟨t,ht⟩:=hhth _ _ _ _ h1;exact ⟨noRoot b t,by show (K.thr b').map (noRoot b)=_;rw [ht];rfl⟩
   ·intro b y hy;exact hque b y hy (.inl (by simp [KCap.ty]))
   ·exact (List.filter_sublist.map _).nodup hC.nd
   ·rw [List.map_map,show (Thr.base ∘ noRootT b)=Thr.base from by funext t;exact noRootT_base b t];exact hC.td
   ·intro l hl;exact hC.nb l (List.mem_filter.1 hl).1
   ·intro t ht;obtain ⟨t',ht',rfl⟩:=List.mem_map.1 ht;rw [noRootT_base];exact hC.tb t' ht'
   ·refine hQ0.same rfl (fun x t e1 e2=>⟨noRoot b t,?_,?_⟩)
    ·show (K.thr x).map (noRoot b)=_;rw [show K.thr x=some t from e1];rfl
    ·unfold noRoot;split<;>exact e2
theorem goneR_D (R:Ref)(ws:Nat->Int)(q:List Wt)(ty b bits:Int):∃R' ext q',(∀D0,goneR ⟨R,D0,ws,q⟩ ty b bits=⟨R',D0++ext,ws,q'⟩)/\R'.L=R.L/\(ext=[]\/ty=2/\ext=[(b,pw (bits-2).toNat)]):=by
 unfold goneR;by_cases h:ty=2
 ·exact ⟨{R with N:=R.N.filter (fun l=>!aq b l),T:=R.T.map (noRootT b)},[(b,pw (bits-2).toNat)],q,fun D0=>by rw [if_pos h],rfl,.inr ⟨h,rfl⟩⟩
 ·by_cases h3:ty=3
  ·exact ⟨{R with T:=(q.foldl (tellR b) (R.T,q)).1},[],(q.foldl (tellR b) (R.T,q)).2,fun D0=>by rw [if_neg h,if_pos h3,List.append_nil],rfl,.inl rfl⟩
  ·by_cases h4:ty=4
   ·exact ⟨{R with T:=R.T.filter (fun t=>!af b t)},[],outQ b q,fun D0=>by rw [if_neg h,if_neg h3,if_pos h4,List.append_nil],rfl,.inl rfl⟩
   ·exact ⟨R,[],q,fun D0=>by rw [if_neg h,if_neg h3,if_neg h4,List.append_nil],rfl,.inl rfl⟩
theorem takeR_D (R:Ref)(ws:Nat->Int)(q:List Wt)(p:Nat)(e:Ent):∃R' ext q',(∀D0,takeR ⟨R,D0,ws,q⟩ p e=⟨R',D0++ext,ws,q'⟩)/\R'.L=cy R.L p e.up/\(ext=[]\/e.ty=2/\ext=[(e.base,pw (e.bits-2).toNat)]):=by
 unfold takeR;by_cases h:(cy R.L p e.up).any (sameE e.ty e.base)=true
 ·exact ⟨{R with L:=cy R.L p e.up},[],q,fun D0=>by simp only;rw [if_pos h,List.append_nil],rfl,.inl rfl⟩
 ·obtain ⟨R',ext,q',h1,h2,h3⟩:=goneR_D {R with L:=cy R.L p e.up} ws q e.ty e.base e.bits;exact ⟨R',ext,q',fun D0=>by simp only;rw [if_neg h];exact h1 D0,h2,h3⟩
theorem takeK_D (K:Ker)(s:Slot):∃K' ext,(∀D0,ci ⟨K,D0⟩ s=⟨K',D0++ext⟩)/\(K'.held s=none)/\K'.ws=K.ws:=by
 cases hc:K.held s with
 | none=>exact ⟨K,[],fun D0=>by rw [takeK_none hc,List.append_nil],hc,rfl⟩
 | some c=>
  by_cases hh:heldK (outK K s) c.ty c.base
  ·exact ⟨outK K s,[],fun D0=>by rw [takeK_held hc hh,List.append_nil],ah _ _ _,rfl⟩
  ·cases c with
   | untyped b n m=>exact ⟨outK K s,[],fun D0=>by rw [takeK_gone hc hh,List.append_nil];rfl,ah _ _ _,rfl⟩
   | frame b n m=>exact ⟨outK K s,[],fun D0=>by rw [takeK_gone hc hh,List.append_nil];rfl,ah _ _ _,rfl⟩
   | node b n m=>exact ⟨doomK (outK K s) b,[(b,bj K b)],fun D0=>by rw [takeK_gone hc hh];rfl,ah _ _ _,rfl⟩
   | task b n m=>exact ⟨endK (outK K s) b,[],fun D0=>by rw [takeK_gone hc hh,List.append_nil];rfl,ah _ _ _,rfl⟩
   | endpoint b n m g=>exact ⟨abandonK (outK K s) b,[],fun D0=>by rw [takeK_gone hc hh,List.append_nil];rfl,ah _ _ _,rfl⟩
theorem Core.lower {R:Ref}{K:Ker}{A E:List (Int×Int)}{nd left:Int}(h:Core R K (A++(nd,left) :: E))(hl:0<left)(he:K.held ⟨nd,left-1⟩=none):Core R K (A++(nd,left-1) :: E):=by
 refine ⟨h.rel,h.geo,?_,?_,?_,h.nod,h.cap,h.hno,h.thd,h.hth,h.que,h.hen,h.nd,h.td,h.nb,h.tb,h.rt,?_⟩
 ·intro s c hs;obtain ⟨g1,g2⟩:=h.inN s c hs;refine ⟨g1,?_⟩;rcases g2 with g2 | ⟨d,hd,g2,g3⟩
  ·exact .inl g2
  ·simp only [List.mem_append,List.mem_cons] at hd;rcases hd with hd | rfl | hd
   ·exact .inr ⟨d,by simp [hd],g2,g3⟩
   ·simp only at g2 g3;refine .inr ⟨(nd,left-1),by simp,g2,?_⟩;show s.index<left-1;by_cases e:s.index=left-1
    ·exfalso
     have:s=⟨nd,left-1⟩:=by cases s;simp only at g2 e;rw [g2,e]
     rw [this,he] at hs;cases hs
    ·omega
   ·exact .inr ⟨d,by simp [hd],g2,g3⟩
 ·intro d hd;simp only [List.mem_append,List.mem_cons] at hd;rcases hd with hd | rfl | hd
  ·exact h.dm d (by simp [hd])
  ·obtain ⟨g1,g2,g3,g4,g5⟩:=h.dm (nd,left) (by simp);exact ⟨g1,g2,by dsimp only at *;omega,by dsimp only at *;omega,g5⟩
  ·exact h.dm d (by simp [hd])
 ·have:=h.dn;simpa using this
 ·intro d hd s c hs hu;simp only [List.mem_append,List.mem_cons] at hd;rcases hd with hd | rfl | hd
  ·exact h.dap d (by simp [hd]) s c hs hu
  ·exact h.dap (nd,left) (by simp) s c hs hu
  ·exact h.dap d (by simp [hd]) s c hs hu
theorem Core.dropD {R:Ref}{K:Ker}{A:List (Int×Int)}{nd:Int}(h:Core R K (A++[(nd,0)])):Core R K A:=by
 refine ⟨h.rel,h.geo,?_,fun d hd=>h.dm d (by simp [hd]),?_,h.nod,h.cap,h.hno,h.thd,h.hth,h.que,h.hen,h.nd,h.td,h.nb,h.tb,h.rt,fun d hd=>h.dap d (by simp [hd])⟩
 ·intro s c hs;obtain ⟨g1,g2⟩:=h.inN s c hs;refine ⟨g1,?_⟩;rcases g2 with g2 | ⟨d,hd,g2,g3⟩
  ·exact .inl g2
  ·simp only [List.mem_append,List.mem_singleton] at hd;rcases hd with hd | rfl
   ·exact .inr ⟨d,hd,g2,g3⟩
   ·simp only at g3;omega
 ·have:=h.dn;rw [List.map_append,List.nodup_append] at this;exact this.1
theorem last_cases (D:List (Int×Int)):D=[]\/∃A nd left,D=A++[(nd,left)]/\D.getLast?=some (nd,left)/\D.dropLast=A:=by
 rcases List.eq_nil_or_concat D with h | ⟨A,d,rfl⟩
 ·exact .inl h
 ·exact .inr ⟨A,d.1,d.2,by simp,by simp,by simp⟩
theorem stepR_zero {R:Ref}{A:List (Int×Int)}{nd:Int}{ws:Nat->Int}{q:List Wt}:bp ⟨R,A++[(nd,0)],ws,q⟩=⟨R,A,ws,q⟩:=by
 unfold bp;simp
theorem stepR_more {R:Ref}{A:List (Int×Int)}{nd left:Int}{ws:Nat->Int}{q:List Wt}(h:left≠0):bp ⟨R,A++[(nd,left)],ws,q⟩=takeAtR ⟨R,A++[(nd,left-1)],ws,q⟩ nd (left-1):=by
 unfold bp;simp [h]
theorem stepK_zero {K:Ker}{A:List (Int×Int)}{nd:Int}:ay ⟨K,A++[(nd,0)]⟩=⟨K,A⟩:=by
 unfold ay;simp
theorem stepK_more {K:Ker}{A:List (Int×Int)}{nd left:Int}(h:left≠0):ay ⟨K,A++[(nd,left)]⟩=ci ⟨K,A++[(nd,left-1)]⟩ ⟨nd,left-1⟩:=by
 unfold ay;simp [h]
theorem Ag.step {S:RS}{S':KS}(h:Ag S S'):Ag (bp S) (ay S'):=by
 obtain ⟨hC,hD,hws,hQ⟩:=h;obtain ⟨K,D⟩:=S';obtain ⟨R,D',ws,q⟩:=S;simp only at hC hD hws hQ;subst hD;rcases last_cases D with rfl | ⟨A,nd,left,rfl,_,_⟩
 ·exact ⟨hC,rfl,hws,hQ⟩
 ·obtain ⟨b1,b2,b3,b4,_⟩:=hC.dm (nd,left) (by simp);dsimp only at b1 b2 b3 b4;by_cases hl:left=0
  ·subst hl;rw [stepR_zero,stepK_zero];exact ⟨hC.dropD,rfl,hws,hQ⟩
  ·rw [stepR_more hl,stepK_more hl];unfold takeAtR;simp only;rcases hC.rel.idx nd (left-1) with ⟨e1,e2⟩ | ⟨p,hp,e1,e2,c,e3,e4⟩
   ·rw [e1,takeK_none e2];exact ⟨hC.lower (E:=[]) (by omega) e2,rfl,hws,hQ⟩
   ·rw [e1];simp only [List.getElem?_eq_getElem hp];obtain ⟨R1,ext,q1,r1,r2,_⟩:=takeR_D R ws q p R.L[p];obtain ⟨K1,ext',k1,k2,k3⟩:=takeK_D K ⟨nd,left-1⟩;have hA:=(Ag.mk (S:=⟨R,A++[(nd,left)],ws,q⟩) (S':=⟨K,A++[(nd,left)]⟩) hC rfl hws hQ).take (p:=p) hp;rw [e2] at hA;rw [r1,k1] at hA ⊢;obtain ⟨a1,a2,a3,a4⟩:=hA;simp only at a1 a2 a3 a4;have hext:ext'=ext:=List.append_cancel_left a2;subst hext;rw [List.append_assoc] at a1 ⊢;exact ⟨a1.lower (by omega) k2,rfl,a3,a4⟩
theorem Ag.done {S:RS}{S':KS}(h:Ag S S'):cf S=a_ S':=by unfold cf a_;rw [h.d]
theorem Ag.work:∀(n:Nat) {S:RS} {S':KS} (bs:List Bool),Ag S S'->(aj bp cf n S bs).2=(aj ay a_ n S' bs).2/\Ag (aj bp cf n S bs).1 (aj ay a_ n S' bs).1
 | 0,_,_,_,h=>⟨rfl,h⟩
 | n+1,S,S',bs,h=>by
  unfold aj;rw [h.done];by_cases hd:a_ S'=true
  ·rw [if_pos hd,if_pos hd];exact ⟨rfl,h⟩
  ·rw [if_neg hd,if_neg hd];cases bs with
   | nil=>exact Ag.work n [] h.step
   | cons b r=>
    cases b with
    | true=>exact ⟨rfl,h.step⟩
    | false=>exact Ag.work n r h.step
def muD (D:List (Int×Int)):Nat:=(D.map fun d=>d.2.toNat+1).sum
def mu (S:RS):Nat:=18*S.R.L.length+muD S.D
theorem muD_append (A B:List (Int×Int)):muD (A++B)=muD A+muD B:=by simp [muD]
theorem mu_take {S:RS}{S':KS}(h:Ag S S'){p:Nat}(hp:p<S.R.L.length):mu (takeR S p S.R.L[p])+1<=mu S/\(takeR S p S.R.L[p]).R.L.length+1=S.R.L.length:=by
 obtain ⟨hC,hD,hws,hQ⟩:=h;obtain ⟨R,D,ws,q⟩:=S;simp only at hC hp;obtain ⟨R1,ext,q1,r1,r2,r3⟩:=takeR_D R ws q p R.L[p];simp only [r1,mu,r2,muD_append];have hlen:=takeL_len hp;have hext:muD ext<=17:=by
  rcases r3 with rfl | ⟨hty,rfl⟩
  ·simp [muD]
  ·obtain ⟨c,hc,ht⟩:=hC.rel.cap _ (List.getElem_mem hp);have h2:=told_type ht;obtain ⟨hb,hbi,_⟩:=told_base ht;rw [hty] at h2;have:pw (R.L[p].bits-2).toNat<=16:=by
    cases c with
    | node b n r=>
     obtain ⟨n3,n6,hnb⟩:=hC.hno _ _ _ _ hc;obtain ⟨q1,q2⟩:=pw_quarter n3 n6;simp only [KCap.bits] at hbi;rw [<- hbi];rw [q1] at q2;simpa [pw] using q2
    | _=>simp only [KCap.ty] at h2;omega
   simp only [muD,List.map_cons,List.map_nil,List.sum_cons,List.sum_nil];omega
 exact ⟨by omega,hlen⟩
theorem mu_step {S:RS}{S':KS}(h:Ag S S')(hd:cf S=false):mu (bp S)+1<=mu S/\(bp S).R.L.length<=S.R.L.length:=by
 obtain ⟨R,D,ws,q⟩:=S;have hC:=h.core;simp only at hC;rcases last_cases D with rfl | ⟨A,nd,left,rfl,_,_⟩
 ·simp [cf] at hd
 ·obtain ⟨b1,b2,b3,b4,_⟩:=hC.dm (nd,left) (by simp);dsimp only at b1 b2 b3 b4;by_cases hl:left=0
  ·subst hl;rw [stepR_zero];simp only [mu,muD_append];simp only [muD,List.map_cons,List.map_nil,List.sum_cons,List.sum_nil];omega
  ·rw [stepR_more hl];unfold takeAtR;simp only;have hlow:muD (A++[(nd,left-1)])+1=muD (A++[(nd,left)]):=by
    rw [muD_append,muD_append];simp only [muD,List.map_cons,List.map_nil,List.sum_cons,List.sum_nil];omega
   rcases hC.rel.idx nd (left-1) with ⟨e1,e2⟩ | ⟨p,hp,e1,e2,c,e3,e4⟩
   ·rw [e1];simp only [mu];omega
   ·rw [e1];simp only [List.getElem?_eq_getElem hp];have h1:=mu_take h (p:=p) hp;simp only at h1;obtain ⟨R1,ext,q1,r1,r2,r3⟩:=takeR_D R ws q p R.L[p];rw [r1] at h1 ⊢;simp only [mu,muD_append (A++_) ext] at h1 ⊢;omega
theorem Ag.ends:∀(n:Nat) {S:RS} {S':KS},Ag S S'->mu S<=n->Ends bp cf n S/\Ends ay a_ n S'
 | 0,S,S',h,hm=>by
  have:cf S=true:=by
   cases hd:cf S with
   | true=>rfl
   | false=>have:=mu_step h hd;omega
  exact ⟨this,by rw [Ends,<- h.done];exact this⟩
 | n+1,S,S',h,hm=>by
  cases hd:cf S with
  | true=>exact ⟨.inl hd,.inl (by rw [<- h.done];exact hd)⟩
  | false=>
   have:=mu_step h hd;obtain ⟨g1,g2⟩:=Ag.ends n h.step (by omega);exact ⟨.inr g1,.inr g2⟩
theorem muD_le:∀{D:List (Int×Int)},(∀d∈D,d.2<=16)->muD D<=17*D.length
 | [],_=>by simp [muD]
 | d :: D,h=>by
  have h1:=h d (by simp);have h2:=muD_le (D:=D) (fun x hx=>h x (by simp [hx]))
  simp only [muD,List.map_cons,List.sum_cons,List.length_cons] at h2 ⊢;omega
theorem Core.lenD {R:Ref}{K:Ker}{D:List (Int×Int)}(h:Core R K D):D.length<=1024:=by
 have:=nodup_map_le (fun b:Int=>b.toNat) 1024 (D.map Prod.fst) h.dn (fun a ha b hb e=>by
  obtain ⟨l,hl,rfl⟩:=List.mem_map.1 ha;obtain ⟨l',hl',rfl⟩:=List.mem_map.1 hb;have:=h.dm l hl;have:=h.dm l' hl';try dsimp only at e
  omega) (fun a ha=>by
  obtain ⟨l,hl,rfl⟩:=List.mem_map.1 ha;have:=h.dm l hl;try dsimp only
  omega)
 simpa using this
def F0:Nat:=400000
theorem F0_eq:F0=400000:=rfl
theorem Ag.mu_le {S:RS}{S':KS}(h:Ag S S'):mu S<=F0:=by
 have h1:=h.core.len;have h2:=h.core.lenD;have h3:=muD_le (D:=S.D) (fun d hd=>(h.core.dm d hd).2.2.2.1)
 rw [F0_eq];unfold mu;omega
attribute [irreducible] F0
theorem work_done {σ:Type}{step:σ->σ}{done:σ->Bool}:∀(n:Nat) (S:σ) (bs:List Bool),Ends step done n S->(aj step done n S bs).2.2=true->done (aj step done n S bs).1=true
 | 0,S,bs,h,_=>h
 | n+1,S,bs,h,h2=>by
  unfold aj at h2 ⊢;by_cases hd:done S=true
  ·rw [if_pos hd];exact hd
  ·rw [if_neg hd] at h2 ⊢;have h':=h.resolve_left hd;cases bs with
   | nil=>exact work_done n _ [] h' h2
   | cons b r=>
    cases b with
    | true=>simp at h2
    | false=>exact work_done n _ r h' h2
theorem work_nil {σ:Type}{step:σ->σ}{done:σ->Bool}:∀(n:Nat) (S:σ),(aj step done n S []).2=([],true)
 | 0,_=>rfl
 | n+1,S=>by
  unfold aj;split
  ·rfl
  ·exact work_nil n _
theorem doneR_iff {S:RS}:cf S=true ↔ S.D=[]:=by unfold cf;simp
theorem mu_work:∀(n:Nat) {S:RS} {S':KS} (bs:List Bool),Ag S S'->(aj bp cf n S bs).1.R.L.length<=S.R.L.length
 | 0,_,_,_,_=>Nat.le_refl _
 | n+1,S,S',bs,h=>by
  unfold aj;by_cases hd:cf S=true
  ·rw [if_pos hd];exact Nat.le_refl _
  ·rw [if_neg hd];have h1:=(mu_step h (by simpa using hd)).2;cases bs with
   | nil=>exact Nat.le_trans (mu_work n [] h.step) h1
   | cons b r=>
    cases b with
    | true=>exact h1
    | false=>exact Nat.le_trans (mu_work n r h.step) h1
def am:List Bool->Bool×List Bool
 | []=>(false,[])
 | b :: r=>(b,r)
def takeB (S:RS)(p:Nat)(e:Ent)(bs:List Bool):Int×RS×List Bool:=
 if (am bs).1 then (8,takeR S p e,(am bs).2)
 else (if (aj bp cf F0 (takeR S p e) (am bs).2).2.2 then 0 else 8,(aj bp cf F0 (takeR S p e) (am bs).2).1,(aj bp cf F0 (takeR S p e) (am bs).2).2.1)
noncomputable def df (S:KS)(s:Slot)(bs:List Bool):Int×KS×List Bool:=
 if (am bs).1 then (8,ci S s,(am bs).2)
 else (if (aj ay a_ F0 (ci S s) (am bs).2).2.2 then 0 else 8,(aj ay a_ F0 (ci S s) (am bs).2).1,(aj ay a_ F0 (ci S s) (am bs).2).2.1)
theorem Ag.takeB {S:RS}{S':KS}(h:Ag S S'){p:Nat}(hp:p<S.R.L.length)(bs:List Bool):
 (takeB S p S.R.L[p] bs).1=(df S' S.R.L[p].slot bs).1/\(takeB S p S.R.L[p] bs).2.2=(df S' S.R.L[p].slot bs).2.2/\Ag (takeB S p S.R.L[p] bs).2.1 (df S' S.R.L[p].slot bs).2.1/\
 (takeB S p S.R.L[p] bs).2.1.R.L.length<S.R.L.length/\(bs=[]->(takeB S p S.R.L[p] bs).1=0/\(takeB S p S.R.L[p] bs).2.2=[]/\(takeB S p S.R.L[p] bs).2.1.D=[]):=by
 have h1:=h.take hp;have h2:=(mu_take h hp).2;unfold Proofs.YtdpjgflemddekaaGreatDoor.takeB df;by_cases hb:(am bs).1=true
 ·rw [if_pos hb,if_pos hb];refine ⟨rfl,rfl,h1,by simp only;omega,?_⟩;rintro rfl;simp [am] at hb
 ·rw [if_neg hb,if_neg hb];obtain ⟨g1,g2⟩:=Ag.work F0 (am bs).2 h1;have g3:=mu_work F0 (am bs).2 h1;refine ⟨by simp only [g1],by simp only [g1],g2,by simp only;omega,?_⟩;rintro rfl;have g4:(aj bp cf F0 (takeR S p S.R.L[p]) (am []).2).2=([],true):=work_nil _ _;simp only [g4];refine ⟨rfl,trivial,doneR_iff.1 (work_done F0 _ _ (Ag.ends F0 h1 h1.mu_le).1 (by rw [g4]))⟩
def lastTo (L:List Ent)(up:Int)(p:Nat):Nat->Nat
 | 0=>p+1
 | k+1=>match L[p+1+k]? with
  | some e=>if e.up=up+1 then p+1+k else lastTo L up p k
  | none=>lastTo L up p k
def bo (L:List Ent)(p:Nat)(up:Int):Nat:=lastTo L up p (endI L p up-(p+1))
def lastC (K:Ker)(s:Slot):Slot:=match K.st s with
 | some x=>x.kids.getLast?.getD ⟨0,0⟩
 | none=>⟨0,0⟩
theorem Fo.flat_roots:∀(F:Fo) (d:Int),(F.flat d).filter (fun x=>decide (x.2=d))=F.roots.map fun s=>(s,d)
 | .nil,_=>rfl
 | .node s kids next,d=>by
  simp only [Fo.flat,Fo.roots,List.map_cons];rw [List.filter_cons_of_pos (by simp),List.filter_append,flat_roots next d];have:(kids.flat (d+1)).filter (fun x=>decide (x.2=d))=[]:=by
   rw [List.filter_eq_nil_iff];intro x hx;have:=Fo.flat_ge kids (d+1) x hx;simp;omega
  rw [this,List.nil_append]
theorem Fo.In.split2 {st:Slot->Option Std}:∀{F:Fo} {d:Int} {p:Slot},F.In st p->∀s∈F.slots,∃A B C u x,F.flat d=A++(s,u) :: (B++C)/\(∀y∈B,u<y.2)/\(∀y∈C.head?,y.2<=u)/\d<=u/\st s=some x/\(B=[] ↔ x.kids=[])/\
 B.filter (fun y=>decide (y.2=u+1))=x.kids.map fun k=>(k,u+1)
 | .nil,_,_,_,s,h=>by simp [Fo.slots] at h
 | .node s0 kids next,d,p,⟨⟨x,h1,h2,h3⟩,h4,h5⟩,s,h=>by
  simp only [Fo.slots,List.mem_cons,List.mem_append] at h;rcases h with rfl | h | h
  ·refine ⟨[],kids.flat (d+1),next.flat d,d,x,by simp [Fo.flat],fun y hy=>by have:=Fo.flat_ge kids (d+1) y hy;omega,fun y hy=>by rw [Fo.flat_head next d y hy];omega,Int.le_refl _,h1,?_,?_⟩
   ·rw [h3];cases kids with
    | nil=>simp [Fo.flat,Fo.roots]
    | node _ _ _=>simp [Fo.flat,Fo.roots]
   ·rw [h3];exact Fo.flat_roots kids (d+1)
  ·obtain ⟨A,B,C,u,y,e1,hB,hC,hd,e2,e3⟩:=h4.split2 (d:=d+1) s h;refine ⟨(s0,d) :: A,B,C++next.flat d,u,y,by simp [Fo.flat,e1],hB,?_,by omega,e2,e3⟩;intro z hz;cases C with
   | nil=>simp at hz;have:=Fo.flat_head next d z hz;omega
   | cons c C=>exact hC z (by simpa using hz)
  ·obtain ⟨A,B,C,u,y,e1,hB,hC,hd,e2,e3⟩:=h5.split2 (d:=d) s h;exact ⟨(s0,d) :: (kids.flat (d+1)++A),B,C,u,y,by simp [Fo.flat,e1],hB,hC,hd,e2,e3⟩
theorem lastTo_spec {L:List Ent}{A B C:List (Slot×Int)}{s:Slot}{u:Int}(h:L.map Ent.key=A++(s,u) :: (B++C)):∀(k:Nat),k<=B.length->∀y,((B.take k).filter (fun y=>decide (y.2=u+1))).getLast?=some y->
 ∃e,L[lastTo L u A.length k]?=some e/\e.key=y/\A.length<lastTo L u A.length k/\lastTo L u A.length k<A.length+1+k
 | 0,_,y,hy=>by simp at hy
 | k+1,hk,y,hy=>by
  have hlen:L.length=A.length+1+B.length+C.length:=by have:=congrArg List.length h;simp at this;omega
  have hkL:A.length+1+k<L.length:=by omega
  have hget:L[A.length+1+k].key=B[k]:=by
   have h1:(L.map Ent.key)[A.length+1+k]?=some L[A.length+1+k].key:=by simp [hkL]
   rw [h,show A++(s,u) :: (B++C)=(A++[(s,u)])++(B++C) by simp,List.getElem?_append_right (by simp)] at h1;have e:A.length+1+k-(A++[(s,u)]).length=k:=by simp
   rw [e,List.getElem?_append_left (by omega),List.getElem?_eq_getElem (by omega)] at h1;exact (Option.some.inj h1).symm
  rw [List.take_succ_eq_append_getElem (by omega),List.filter_append] at hy;have hto:lastTo L u A.length (k+1)=if L[A.length+1+k].up=u+1 then A.length+1+k else lastTo L u A.length k:=by
   rw [lastTo,List.getElem?_eq_getElem hkL]
  rw [hto];by_cases hu:L[A.length+1+k].up=u+1
  ·simp only [if_pos hu];have hb:B[k].2=u+1:=by rw [<- hget];exact hu
   rw [List.filter_cons_of_pos (by simpa using hb)] at hy;simp at hy;exact ⟨_,List.getElem?_eq_getElem hkL,by rw [hget,hy],by omega,by omega⟩
  ·simp only [if_neg hu];have hb:¬B[k].2=u+1:=by rw [<- hget];exact hu
   rw [List.filter_cons_of_neg (by simpa using hb)] at hy;simp only [List.filter_nil,List.append_nil] at hy;obtain ⟨e,g0,g1,g2,g3⟩:=lastTo_spec h k (by omega) y hy;exact ⟨e,g0,g1,g2,by omega⟩
theorem Rel.kidsOf {R:Ref}{K:Ker}(h:Rel R K)(i:Nat)(hi:i<R.L.length):
 (endI R.L i R.L[i].up=i+1 ↔ ax K R.L[i].slot=false)/\(ax K R.L[i].slot=true->∃hj:bo R.L i R.L[i].up<R.L.length,(R.L[bo R.L i R.L[i].up]).slot=lastC K R.L[i].slot/\i<bo R.L i R.L[i].up):=by
 obtain ⟨F,hF⟩:=h.tree;have hs:R.L[i].slot∈F.slots:=by rw [hF.slots];exact List.mem_map.2 ⟨_,List.getElem_mem hi,rfl⟩
 obtain ⟨A,B,C,u,x,e1,hB,hC,_,e2,e3,e4⟩:=hF.stands.split2 (d:=0) _ hs;rw [<- hF.flat] at e1;obtain ⟨r1,r2⟩:=split_at hF.nd e1 hi rfl;have r3:=end_at e1 hB hC;rw [r1,<- r2] at r3;have hk:ax K R.L[i].slot=decide (0<x.kids.length):=by unfold ax;rw [e2]
 constructor
 ·rw [hk,r3];simp only [decide_eq_false_iff_not];constructor
  ·intro g;have:B=[]:=List.length_eq_zero_iff.1 (by omega);rw [e3.1 this];simp
  ·intro g;have:x.kids=[]:=List.length_eq_zero_iff.1 (by omega);rw [e3.2 this];rfl
 ·intro g;rw [hk] at g;simp only [decide_eq_true_eq] at g;have hne:x.kids≠[]:=fun e=>by rw [e] at g;simp at g
  obtain ⟨l,hl⟩:∃l,x.kids.getLast?=some l:=⟨_,List.getLast?_eq_some_getLast hne⟩;have hlast:((B.take B.length).filter (fun y=>decide (y.2=u+1))).getLast?=some (l,u+1):=by
   rw [List.take_length,e4,List.getLast?_map,hl];rfl
  obtain ⟨e,g0,g1,g2,_⟩:=lastTo_spec e1 B.length (Nat.le_refl _) _ hlast;have e5:bo R.L i R.L[i].up=lastTo R.L u A.length B.length:=by
   unfold bo;rw [r3,r2,r1];congr 1;omega
  rw [<- e5] at g0 g2;obtain ⟨hj,g3⟩:=List.getElem?_eq_some_iff.1 g0;refine ⟨hj,?_,by omega⟩;rw [g3];have:e.slot=l:=congrArg Prod.fst g1;rw [this];unfold lastC;rw [e2];simp only;rw [hl];rfl
def revokeR:Nat->RS->Int->Int->List Bool->Int×RS×List Bool
 | 0,S,_,_,bs=>(0,S,bs)
 | k+1,S,n,i,bs=>match S.R.L.findIdx? (cz n i) with
  | none=>(0,S,bs)
  | some p=>match S.R.L[p]? with
   | none=>(0,S,bs)
   | some e=>if endI S.R.L p e.up=p+1 then (0,S,bs) else
    match S.R.L[bo S.R.L p e.up]? with
    | none=>(0,S,bs)
    | some e'=>if (takeB S (bo S.R.L p e.up) e' bs).1=0 then revokeR k (takeB S (bo S.R.L p e.up) e' bs).2.1 n i (takeB S (bo S.R.L p e.up) e' bs).2.2 else takeB S (bo S.R.L p e.up) e' bs
noncomputable def cj:Nat->KS->Slot->List Bool->Int×KS×List Bool
 | 0,S,_,bs=>(0,S,bs)
 | k+1,S,s,bs=>if ax S.K s then
  if (df S (lastC S.K s) bs).1=0 then cj k (df S (lastC S.K s) bs).2.1 s (df S (lastC S.K s) bs).2.2 else df S (lastC S.K s) bs
  else (0,S,bs)
theorem Ag.revoke:∀(k:Nat) {S:RS} {S':KS} (n i:Int) (bs:List Bool),Ag S S'->0<=i->(revokeR k S n i bs).1=(cj k S' ⟨n,i⟩ bs).1/\Ag (revokeR k S n i bs).2.1 (cj k S' ⟨n,i⟩ bs).2.1/\(bs=[]->S.D=[]->(revokeR k S n i bs).2.1.D=[])
 | 0,_,_,_,_,_,h,_=>⟨rfl,h,fun _ h=>h⟩
 | k+1,S,S',n,i,bs,h,hi0=>by
  unfold revokeR cj;have hC:=h.core;rcases hC.rel.idx n i with ⟨e1,e2⟩ | ⟨p,hp,e1,e2,c,e3,e4⟩
  ·rw [e1];have hk:ax S'.K ⟨n,i⟩=false:=by
    unfold ax;rw [hC.rel.treeOk.empty _ e2 hi0]
   rw [hk];exact ⟨rfl,h,fun _ h=>h⟩
  ·rw [e1];simp only [List.getElem?_eq_getElem hp];obtain ⟨k1,k2⟩:=hC.rel.kidsOf p hp;rw [e2] at k1 k2;by_cases hk:ax S'.K ⟨n,i⟩=true
   ·rw [if_pos hk,if_neg (fun e=>by rw [k1.1 e] at hk;cases hk)];obtain ⟨hj,k3,_⟩:=k2 hk;simp only [List.getElem?_eq_getElem hj];obtain ⟨g1,g2,g3,g4,g5⟩:=h.takeB hj bs;rw [k3] at g1 g2 g3;rw [g1,g2];by_cases he:(df S' (lastC S'.K ⟨n,i⟩) bs).1=0
    ·rw [if_pos he,if_pos he];obtain ⟨q1,q2,q3⟩:=Ag.revoke k n i (df S' (lastC S'.K ⟨n,i⟩) bs).2.2 g3 hi0;refine ⟨q1,q2,fun hb _=>?_⟩
     obtain ⟨p1,p2,p3⟩:=g5 hb;exact q3 (by rw [<- g2];exact p2) p3
    ·rw [if_neg he,if_neg he];exact ⟨g1,g3,fun hb _=>(g5 hb).2.2⟩
   ·rw [if_neg hk,if_pos (k1.2 (by simpa using hk))];exact ⟨rfl,h,fun _ h=>h⟩
def clrW (ws:Nat->Int)(a n:Int):Nat->Int:=fun i=>if a<=(i:Int)/\(i:Int)<a+n then 0 else ws i
def aw (m:Int)(bs:List Bool):Int×List Bool×Bool:=aj (fun m=>max (m-16) 0) (fun m=>decide (m<=0)) 100 m bs
theorem reset_range:∀(n:Nat) (m:Int) (bs:List Bool),0<=m->0<=(aj (fun m=>max (m-16) 0) (fun m=>decide (m<=0)) n m bs).1/\(aj (fun m=>max (m-16) 0) (fun m=>decide (m<=0)) n m bs).1<=m
 | 0,m,bs,h=>⟨h,Int.le_refl _⟩
 | n+1,m,bs,h=>by
  unfold aj;by_cases hd:decide (m<=0)=true
  ·rw [if_pos hd];exact ⟨h,Int.le_refl _⟩
  ·rw [if_neg hd];have h1:0<=max (m-16) 0:=by omega
   have h2:max (m-16) 0<=m:=by omega
   cases bs with
   | nil=>have:=reset_range n (max (m-16) 0) [] h1;exact ⟨this.1,Int.le_trans this.2 h2⟩
   | cons b r=>
    cases b with
    | true=>exact ⟨h1,h2⟩
    | false=>have:=reset_range n (max (m-16) 0) r h1;exact ⟨this.1,Int.le_trans this.2 h2⟩
def carveS (S:RS)(root:Int)(c:Cl)(p:Nat)(e:Ent)(n ix:Int):Int×RS:=((carveR S.R root c p e n ix).1,{S with R:=(carveR S.R root c p e n ix).2})
def resetS (S:RS)(p:Nat)(e:Ent)(m:Int):RS:=⟨{S.R with L:=S.R.L.set p {e with mark:=m}},S.D,clrW S.ws (e.base+m) (e.mark-m),S.q⟩
def retypeB (S:RS)(root:Int)(c:Cl)(p:Nat)(e:Ent)(bs:List Bool):Int×RS:=
 if e.ty≠1 then (3,S)
 else if okObj c=false then (7,S)
 else match bd S.R.L S.R.N root c.to with
  | none=>(2,S)
  | some (n,ix)=>
   if az S.R.N n<ix+c.count then (2,S)
   else if fullIn S.R.L n ix c.count.toNat then (4,S)
   else if endI S.R.L p e.up=p+1 then
    if (aw e.mark bs).2.2 then carveS (resetS S p e (aw e.mark bs).1) root c p {e with mark:=(aw e.mark bs).1} n ix
    else (8,resetS S p e (aw e.mark bs).1)
   else carveS S root c p e n ix
def bt (K:Ker)(f:Slot)(b n m m':Int):Ker:={K with held:=upd K.held f (some (.untyped b n m')),ws:=clrW K.ws (b+m') (m-m')}
def carveKS (S:KS)(f s:Slot)(ty bits root b n m:Int)(cnt:Nat):Int×KS:=((carveK S.K f s ty bits root b n m cnt).1,{S with K:=(carveK S.K f s ty bits root b n m cnt).2})
def retypeKB (S:KS)(root:Int)(c:Cl)(bs:List Bool):Option (Int×KS):=
 match ao S.K root c.at_ with
 | none=>none
 | some f=>match S.K.held f with
  | some (.untyped b n m)=>
   if isObj c.ty c.bits=true/\1<=c.count/\c.count<=8 then
    match rowK S.K root c.to c.count.toNat with
    | none=>none
    | some (_,false)=>some (4,S)
    | some (s,true)=>if ax S.K f then some (carveKS S f s c.ty c.bits root b n m c.count.toNat)
     else if (aw m bs).2.2 then some (carveKS {S with K:=bt S.K f b n m (aw m bs).1} f s c.ty c.bits root b n (aw m bs).1 c.count.toNat)
     else some (8,{S with K:=bt S.K f b n m (aw m bs).1})
   else some (7,S)
  | _=>some (3,S)
def orTwoS (S:KS):Option (Int×KS)->Int×KS
 | some y=>y
 | none=>(2,S)
theorem clr_agree {ws ws':Nat->Int}(h:∀i,i<1024->ws i=ws' i)(a n:Int):∀i,i<1024->clrW ws a n i=clrW ws' a n i:=by
 intro i hi;unfold clrW;rw [h i hi]
theorem nodeK_mark {K K':Ker}{f:Slot}{b n m m':Int}(hf:K.held f=some (.untyped b n m))(hh:K'.held=upd K.held f (some (.untyped b n m')))(s:Slot):nodeK K' s=nodeK K s:=by
 unfold nodeK;rw [hh];by_cases e:s=f
 ·rw [e,ah,hf]
 ·rw [ae _ _ e]
theorem findK_mark {K K':Ker}{f:Slot}{b n m m':Int}(hf:K.held f=some (.untyped b n m))(root:Int)(l:List Int)(hh:K'.held=upd K.held f (some (.untyped b n m')):=by rfl)(hn:K'.nodes=K.nodes:=by rfl):ao K' root l=ao K root l:=by
 unfold ao;have hok:∀nd x,okK K' nd x=okK K nd x:=fun nd x=>by unfold okK bj;rw [hn]
 split
 ·rfl
 ·have:∀(l:List Int) (nd:Int),goK K' nd l=goK K nd l:=by
   intro l;induction l with
   | nil=>intro nd;rfl
   | cons x l ih=>
    intro nd;cases l with
    | nil=>simp only [goK,hok]
    | cons y r=>
     simp only [goK,hok,nodeK_mark hf hh];split
     ·cases nodeK K ⟨nd,x⟩ with
      | none=>rfl
      | some nd'=>exact ih nd'
     ·rfl
  exact this l root
theorem carveTo_ws (K:Ker)(f s:Slot)(ty bits root st:Int):∀i:Nat,(bz K f s ty bits root st i).ws=K.ws
 | 0=>rfl
 | i+1=>by
  rw [<- carveTo_ws K f s ty bits root st i];simp only [bz];generalize madeC ty (st+i*pw bits.toNat) bits=c;cases c<;>rfl
theorem carveK_ws (K:Ker)(f s:Slot)(ty bits root b n m:Int)(cnt:Nat):(carveK K f s ty bits root b n m cnt).2.ws=K.ws:=by
 unfold carveK;split
 ·rfl
 ·exact carveTo_ws _ _ _ _ _ _ _ _
theorem reset_ends:∀(n:Nat) (m:Int),m<=16*n->Ends (fun m=>max (m-16) 0) (fun m=>decide (m<=0)) n m
 | 0,m,h=>by simp only [Ends];simpa using h
 | n+1,m,h=>by
  by_cases h0:m<=0
  ·exact .inl (by simpa using h0)
  ·refine .inr (reset_ends n _ ?_);show max (m-16) 0<=_;push_cast at h;omega
theorem Ag.retype {S:RS}{S':KS}(h:Ag S S')(hD:S.D=[]){p:Nat}(hp:p<S.R.L.length)(root:Int)(c:Cl)(bs:List Bool)(hf:ao S'.K root c.at_=some S.R.L[p].slot):
 (retypeB S root c p S.R.L[p] bs).1=(orTwoS S' (retypeKB S' root c bs)).1/\Ag (retypeB S root c p S.R.L[p] bs).2 (orTwoS S' (retypeKB S' root c bs)).2/\(retypeB S root c p S.R.L[p] bs).2.D=[]:=by
 obtain ⟨hC,hD',hws,hQ⟩:=h;obtain ⟨K,D⟩:=S';obtain ⟨R,D',ws,q0⟩:=S;simp only at hC hD hD' hws hQ hp hf ⊢;subst hD';subst hD;have hA:Ag ⟨R,[],ws,q0⟩ ⟨K,[]⟩:=⟨hC,rfl,hws,hQ⟩;obtain ⟨k,hk,ht⟩:=hC.rel.cap _ (List.getElem_mem hp);obtain ⟨t1,_⟩:=told_tyD ht;unfold retypeKB;simp only [hf,hk];by_cases hu:k.isU=true
 ·cases k with
  | untyped b n m=>
   simp only;have hty:¬R.L[p].ty≠1:=fun e=>e (t1.2 hu)
   have ht':=ht;simp only [KCap.told,Ent.told,Prod.mk.injEq] at ht';obtain ⟨a1,rfl,rfl,a4,a5,rfl⟩:=ht';unfold retypeB;rw [if_neg hty];by_cases hob:okObj c=true
   ·have hob':=(okObj_iff c).1 hob;rw [if_pos hob',if_neg (by simp [hob])];unfold rowK;rw [hC.rel.find];cases hf2:bd R.L R.N root c.to with
    | none=>exact ⟨rfl,hA,rfl⟩
    | some q=>
     obtain ⟨nd,ix⟩:=q;simp only [Option.map_some,toSlot];obtain ⟨o1,o2⟩:=hC.found_ok hf2;have hcnt:((c.count.toNat:Nat):Int)=c.count:=by omega
     have hslots:az R.N nd=bj K nd:=by unfold bj;rw [hC.rel.nodes]
     by_cases hroom:az R.N nd<ix+c.count
     ·have hnok:okK K nd (ix+c.count.toNat-1)=false:=by
       unfold okK;rw [hcnt,<- hslots];have:¬ix+c.count-1<az R.N nd:=by omega
       simp [this]
      rw [if_pos hroom,hnok];exact ⟨rfl,hA,rfl⟩
     ·have hok:okK K nd (ix+c.count.toNat-1)=true:=by
       unfold okK;rw [hcnt,<- hslots];have g1:ix+c.count-1<az R.N nd:=by omega
       have g2:0<=ix+c.count-1:=by omega
       simp only [Bool.and_eq_true,decide_eq_true_eq];exact ⟨g2,g1⟩
      rw [if_neg hroom,hok,if_pos rfl,full_all hC.rel];by_cases hfu:fullIn R.L nd ix c.count.toNat=true
      ·rw [if_pos hfu];simp only [hfu,Bool.not_true];exact ⟨rfl,hA,trivial⟩
      ·have hfu':fullIn R.L nd ix c.count.toNat=false:=by simpa using hfu
       rw [if_neg hfu];simp only [hfu',Bool.not_false];obtain ⟨kd1,_⟩:=hC.rel.kidsOf p hp;have hcap:=hC.cap _ _ hk;simp only [KCap.base,KCap.bits,KCap.mark] at hcap;by_cases hkid:ax K R.L[p].slot=true
       ·rw [if_neg (fun e=>by rw [kd1.1 e] at hkid;cases hkid),if_pos hkid];obtain ⟨g1,g2,g3⟩:=hC.carves hp root c _ hk rfl hob hf2 hroom hfu';refine ⟨g1,⟨g2,rfl,fun i hi=>?_,hQ.more g3⟩,rfl⟩
        show ws i=(carveK K R.L[p].slot ⟨nd,ix⟩ c.ty c.bits root R.L[p].base R.L[p].bits R.L[p].mark c.count.toNat).2.ws i;rw [carveK_ws];exact hws i hi
       ·rw [if_pos (kd1.2 (by simpa using hkid)),if_neg hkid];obtain ⟨m1,m2⟩:=reset_range 100 R.L[p].mark bs hcap.2.2.2.2.1;generalize hrm:aw R.L[p].mark bs=y;have hrm':aj (fun m=>max (m-16) 0) (fun m=>decide (m<=0)) 100 R.L[p].mark bs=y:=hrm
        rw [hrm'] at m1 m2;have hC1:=hC.setMark hp hk (m':=y.1) (.inr (by simpa using hkid)) m1 (by omega);have hp1:p<(R.L.set p {R.L[p] with mark:=y.1}).length:=by simpa using hp
        have hg1:(R.L.set p {R.L[p] with mark:=y.1})[p]'hp1={R.L[p] with mark:=y.1}:=by simp
        have hC2:Core {R with L:=R.L.set p {R.L[p] with mark:=y.1}} (bt K R.L[p].slot R.L[p].base R.L[p].bits R.L[p].mark y.1) []:=
         ⟨⟨hC1.rel.cap,hC1.rel.emp,hC1.rel.tree,hC1.rel.nodes,hC1.rel.thr⟩,hC1.geo,hC1.inN,hC1.dm,hC1.dn,hC1.nod,hC1.cap,hC1.hno,hC1.thd,hC1.hth,hC1.que,hC1.hen,hC1.nd,hC1.td,hC1.nb,hC1.tb,hC1.rt,hC1.dap⟩
        have hQ1:QAg q0 (bt K R.L[p].slot R.L[p].base R.L[p].bits R.L[p].mark y.1):=hQ.same rfl (fun _ t e1 e2=>⟨t,e1,e2⟩);have hws1:∀i,i<1024->clrW ws (R.L[p].base+y.1) (R.L[p].mark-y.1) i=clrW K.ws (R.L[p].base+y.1) (R.L[p].mark-y.1) i:=clr_agree hws _ _;by_cases hok2:y.2.2=true
        ·rw [if_pos hok2,if_pos hok2];have hfe:bd (R.L.set p {R.L[p] with mark:=y.1}) R.N root c.to=some (nd,ix):=by
          have:=hC2.rel.find root c.to;have h2:=hC.rel.find root c.to;rw [hf2] at h2;have h3:ao (bt K R.L[p].slot R.L[p].base R.L[p].bits R.L[p].mark y.1) root c.to=ao K root c.to:=findK_mark hk root c.to;rw [h3,h2] at this;cases hq:bd (R.L.set p {R.L[p] with mark:=y.1}) R.N root c.to with
          | none=>rw [hq] at this;cases this
          | some q=>
           rw [hq] at this;simp only [Option.map_some,toSlot,Option.some.injEq,Slot.mk.injEq] at this;obtain ⟨q1,q2⟩:=q;simp only at this;rw [this.1,this.2]
         have hfu1:fullIn (R.L.set p {R.L[p] with mark:=y.1}) nd ix c.count.toNat=false:=by
          have h1:=full_all hC2.rel nd ix c.count.toNat;have h2:=full_all hC.rel nd ix c.count.toNat;have h3:((br ⟨nd,ix⟩ c.count.toNat).all fun t=>((bt K R.L[p].slot R.L[p].base R.L[p].bits R.L[p].mark y.1).held t).isNone)=((br ⟨nd,ix⟩ c.count.toNat).all fun t=>(K.held t).isNone):=by
           congr 1;funext t;show (upd K.held R.L[p].slot _ t).isNone=_;by_cases e:t=R.L[p].slot
           ·rw [e,ah,hk];rfl
           ·rw [ae _ _ e]
          rw [h3,h2,hfu'] at h1;simpa using h1.symm
         have hc3:=hC2.carves (p:=p) hp1 root c y.1 (by rw [hg1];exact ah _ _ _) (by rw [hg1]) hob (l:=c.to) hfe hroom hfu1;rw [hg1] at hc3;obtain ⟨g1,g2,g3⟩:=hc3;refine ⟨g1,⟨g2,rfl,fun i hi=>?_,hQ1.more g3⟩,rfl⟩
         show clrW ws (R.L[p].base+y.1) (R.L[p].mark-y.1) i=(carveK (bt K R.L[p].slot R.L[p].base R.L[p].bits R.L[p].mark y.1) R.L[p].slot ⟨nd,ix⟩ c.ty c.bits root R.L[p].base R.L[p].bits y.1 c.count.toNat).2.ws i;rw [carveK_ws];exact hws1 i hi
        ·rw [if_neg hok2,if_neg hok2];exact ⟨rfl,⟨hC2,rfl,hws1,hQ1⟩,rfl⟩
   ·have hob':¬(isObj c.ty c.bits=true/\1<=c.count/\c.count<=8):=fun e=>hob ((okObj_iff c).2 e)
    rw [if_neg hob',if_pos (by simpa using hob)];exact ⟨rfl,hA,rfl⟩
  | _=>simp [KCap.isU] at hu
 ·have hL:retypeB ⟨R,[],ws,q0⟩ root c p R.L[p] bs=(3,⟨R,[],ws,q0⟩):=by unfold retypeB;rw [if_pos (fun e=>hu (t1.1 e))]
  rw [hL];cases k with
  | untyped b n m=>simp [KCap.isU] at hu
  | _=>exact ⟨rfl,hA,rfl⟩
def smallK (K:Ker)(root:Int)(c:Cl):Option (Int×Ker):=
 if c.kind=2 then copyK K root c else if c.kind=3 then mintK K root c else moveK K root c
def F1:Nat:=20000
theorem F1_eq:F1=20000:=rfl
attribute [irreducible] F1
def doRB (S:RS)(b:Int)(c:Cl)(bs:List Bool):Int×RS:=
 match S.R.T.find? (af b) with
 | none=>(1,S)
 | some t=>
  if t.state≠1 then (1,S)
  else if c.kind<1\/11<c.kind then (7,S)
  else if c.kind=1\/c.kind=5\/c.kind=6 then
   let y:=aj bp cf F0 S bs
   if y.2.2=false then (8,y.1)
   else match bd y.1.R.L y.1.R.N (stillI y.1.R.N t.root) c.at_ with
    | none=>(2,y.1)
    | some (n,ix)=>match y.1.R.L.findIdx? (cz n ix) with
     | none=>if c.kind=1 then (3,y.1) else (4,y.1)
     | some p=>match y.1.R.L[p]? with
      | none=>(0,y.1)
      | some e=>if c.kind=1 then retypeB y.1 (stillI y.1.R.N t.root) c p e y.2.1
       else if c.kind=5 then ((takeB y.1 p e y.2.1).1,(takeB y.1 p e y.2.1).2.1)
       else ((revokeR F1 y.1 n ix y.2.1).1,(revokeR F1 y.1 n ix y.2.1).2.1)
  else match bd S.R.L S.R.N t.root c.at_ with
   | none=>(2,S)
   | some (n,ix)=>match S.R.L.findIdx? (cz n ix) with
    | none=>(4,S)
    | some p=>match S.R.L[p]? with
     | none=>(0,S)
     | some e=>((bm S.R t.root c p e).1,{S with R:={S.R with L:=(bm S.R t.root c p e).2}})
noncomputable def doKB (S:KS)(th:Int)(c:Cl)(bs:List Bool):Int×KS:=
 match S.K.thr th with
 | none=>(1,S)
 | some t=>
  if t.state≠1 then (1,S)
  else if c.kind<1\/11<c.kind then (7,S)
  else if c.kind=1\/c.kind=5\/c.kind=6 then
   let y:=aj ay a_ F0 S bs
   if y.2.2=false then (8,y.1)
   else if c.kind=1 then orTwoS y.1 (retypeKB y.1 t.root c y.2.1)
   else match ao y.1.K t.root c.at_ with
    | none=>(2,y.1)
    | some s=>if (y.1.K.held s).isNone then (4,y.1)
     else if c.kind=5 then ((df y.1 s y.2.1).1,(df y.1 s y.2.1).2.1)
     else ((cj F1 y.1 s y.2.1).1,(cj F1 y.1 s y.2.1).2.1)
  else ((b_ S.K (smallK S.K t.root c)).1,{S with K:=(b_ S.K (smallK S.K t.root c)).2})
def sameTQ (K K':Ker):Prop:=K'.ws=K.ws/\K'.thr=K.thr/\K'.qs=K.qs
theorem layChildK_tq (K:Ker)(root:Int)(l:List Int)(k:KCap)(p:Slot):sameTQ K (b_ K (bq K root l k p)).2:=by
 unfold bq;split
 ·exact ⟨rfl,rfl,rfl⟩
 ·split<;>exact ⟨rfl,rfl,rfl⟩
theorem smallK_tq (K:Ker)(root:Int)(c:Cl):sameTQ K (b_ K (smallK K root c)).2:=by
 unfold smallK;split
 ·unfold copyK;split
  ·exact ⟨rfl,rfl,rfl⟩
  ·split
   ·exact ⟨rfl,rfl,rfl⟩
   ·split
    ·exact ⟨rfl,rfl,rfl⟩
    ·split
     ·exact layChildK_tq _ _ _ _ _
     ·exact ⟨rfl,rfl,rfl⟩
 ·split
  ·unfold mintK;split
   ·exact ⟨rfl,rfl,rfl⟩
   ·split
    ·exact ⟨rfl,rfl,rfl⟩
    ·split
     ·split
      ·exact ⟨rfl,rfl,rfl⟩
      ·split
       ·exact layChildK_tq _ _ _ _ _
       ·exact ⟨rfl,rfl,rfl⟩
     ·exact ⟨rfl,rfl,rfl⟩
  ·unfold moveK;split
   ·exact ⟨rfl,rfl,rfl⟩
   ·split
    ·exact ⟨rfl,rfl,rfl⟩
    ·split
     ·exact ⟨rfl,rfl,rfl⟩
     ·split<;>exact ⟨rfl,rfl,rfl⟩
theorem smallK_ws (K:Ker)(root:Int)(c:Cl):(b_ K (smallK K root c)).2.ws=K.ws:=(smallK_tq K root c).1
theorem Core.small {R:Ref}{K:Ker}{D:List (Int×Int)}(h:Core R K D)(root:Int)(c:Cl)(hk:c.kind=2\/c.kind=3\/c.kind=4):
 ∀y,y=(match bd R.L R.N root c.at_ with
  | none=>((2:Int),R)
  | some (n,ix)=>match R.L.findIdx? (cz n ix) with
   | none=>(4,R)
   | some p=>match R.L[p]? with
    | none=>(0,R)
    | some e=>((bm R root c p e).1,{R with L:=(bm R root c p e).2}))->
 y.1=(b_ K (smallK K root c)).1/\Core y.2 (b_ K (smallK K root c)).2 D:=by
 intro y hy;have hA:∀(f:Option (Int×Ker)),(ao K root c.at_=none->f=none)->
  (∀n i,bd R.L R.N root c.at_=some (n,i)->K.held ⟨n,i⟩=none->f=some (4,K))->
  (∀p (hp:p<R.L.length) n i,bd R.L R.N root c.at_=some (n,i)->R.L[p].slot=⟨n,i⟩->∀k,K.held R.L[p].slot=some k->k.told=R.L[p].told->
    (bm R root c p R.L[p]).1=(b_ K f).1/\Core {R with L:=(bm R root c p R.L[p]).2} (b_ K f).2 D)->
  y.1=(b_ K f).1/\Core y.2 (b_ K f).2 D:=by
  intro f f1 f2 f3;subst hy;cases hfi:bd R.L R.N root c.at_ with
  | none=>
   rw [f1 (by rw [h.rel.find,hfi];rfl)];exact ⟨rfl,h⟩
  | some q=>
   obtain ⟨n,i⟩:=q;simp only;rcases h.rel.idx n i with ⟨e1,e2⟩ | ⟨p,hp,e1,e2,k,e3,e4⟩
   ·rw [e1,f2 n i hfi e2];exact ⟨rfl,h⟩
   ·rw [e1];simp only [List.getElem?_eq_getElem hp];rw [<- e2] at e3;exact f3 p hp n i hfi e2 k e3 e4
 have hfk:∀n i,bd R.L R.N root c.at_=some (n,i)->ao K root c.at_=some ⟨n,i⟩:=fun n i e=>by rw [h.rel.find,e];rfl
 unfold smallK;by_cases h2:c.kind=2
 ·simp only [if_pos h2];refine hA (copyK K root c) ?_ ?_ ?_
  ·intro e;unfold copyK;rw [e]
  ·intro n i e e2;unfold copyK;rw [hfk n i e];simp only [e2]
  ·intro p hp n i e e2 k e3 e4;have:copyK K root c=(if k.isU then some (3,K) else if 0<=c.rights/\c.rights<=7 then bq K root c.to (lessC k c.rights) R.L[p].slot else some (7,K)):=by
    unfold copyK;rw [hfk n i e];rw [e2] at e3;simp only [e3,e2]
   rw [this];exact h.copy hp root c k e3 e4 h2
 ·simp only [if_neg h2];by_cases h3:c.kind=3
  ·simp only [if_pos h3];refine hA (mintK K root c) ?_ ?_ ?_
   ·intro e;unfold mintK;rw [e]
   ·intro n i e e2;unfold mintK;rw [hfk n i e];simp only [e2]
   ·intro p hp n i e e2 k e3 e4;have:mintK K root c=mintAt K root c R.L[p].slot k:=by
     unfold mintK;rw [hfk n i e];rw [e2] at e3;simp only [e3,e2];rfl
    rw [this];exact h.mint hp root c k e3 e4 h3
  ·simp only [if_neg h3];refine hA (moveK K root c) ?_ ?_ ?_
   ·intro e;unfold moveK;rw [e]
   ·intro n i e e2;unfold moveK;rw [hfk n i e];simp only [e2]
   ·intro p hp n i e e2 k e3 e4;have:moveK K root c=(match ao K root c.to with
     | none=>none
     | some t=>if (K.held t).isSome then some (4,K) else some (0,K.move R.L[p].slot t k)):=by
     unfold moveK;rw [hfk n i e];rw [e2] at e3;simp only [e3,e2];cases ao K root c.to<;>rfl
    rw [this];exact h.moves hp root c k e3 (by omega)
theorem do_agree {S:RS}{S':KS}(h:Ag S S')(th:Int)(c:Cl)(bs:List Bool)(hk:c.kind<=6\/11<c.kind):
 (doRB S th c bs).1=(doKB S' th c bs).1/\Ag (doRB S th c bs).2 (doKB S' th c bs).2/\(bs=[]->S.D=[]->(doRB S th c bs).2.D=[]):=by
 unfold doRB doKB;rw [h.core.rel.thr];cases hf:S.R.T.find? (af th) with
 | none=>exact ⟨rfl,h,fun _ h=>h⟩
 | some t=>
  simp only [Option.map_some,Thr.thd];by_cases hs:t.state≠1
  ·rw [if_pos hs,if_pos hs];exact ⟨rfl,h,fun _ h=>h⟩
  ·rw [if_neg hs,if_neg hs];by_cases hkk:c.kind<1\/11<c.kind
   ·rw [if_pos hkk,if_pos hkk];exact ⟨rfl,h,fun _ h=>h⟩
   ·rw [if_neg hkk,if_neg hkk];by_cases hw:c.kind=1\/c.kind=5\/c.kind=6
    ·rw [if_pos hw,if_pos hw];obtain ⟨w1,w2⟩:=Ag.work F0 bs h;have wd:=work_done F0 S bs (Ag.ends F0 h h.mu_le).1;have wn:bs=[]->(aj bp cf F0 S bs).2=([],true):=by rintro rfl;exact work_nil _ _
     generalize hy:aj bp cf F0 S bs=y at w1 w2 wd wn ⊢;generalize hy':aj ay a_ F0 S' bs=y' at w1 w2 ⊢;obtain ⟨y1,yb,yo⟩:=y;obtain ⟨y1',yb',yo'⟩:=y';simp only [Prod.mk.injEq] at w1 w2 wd wn ⊢;obtain ⟨rfl,rfl⟩:=w1;cases hyo:yo with
     | false=>exact ⟨rfl,w2,fun hb _=>by have:=(wn hb).2;rw [hyo] at this;cases this⟩
     | true=>
      have hDn:y1.D=[]:=doneR_iff.1 (wd hyo);simp only [Bool.true_eq_false,if_false];rw [w2.core.still];have hC:=w2.core;have hfind:=hC.rel.find t.root c.at_;by_cases h1:c.kind=1
      ·simp only [if_pos h1];cases hfi:bd y1.R.L y1.R.N t.root c.at_ with
       | none=>
        rw [hfi] at hfind;unfold retypeKB;rw [hfind];exact ⟨rfl,w2,fun _ _=>hDn⟩
       | some q=>
        obtain ⟨n,i⟩:=q;rw [hfi] at hfind;simp only [Option.map_some,toSlot] at hfind ⊢;rcases hC.rel.idx n i with ⟨e1,e2⟩ | ⟨p,hp,e1,e2,k,e3,e4⟩
        ·rw [e1];unfold retypeKB;rw [hfind];simp only [e2];exact ⟨rfl,w2,fun _ _=>hDn⟩
        ·rw [e1];simp only [List.getElem?_eq_getElem hp,still_eq hfi];obtain ⟨g1,g2,g3⟩:=w2.retype hDn hp t.root c yb (by rw [hfind,e2]);exact ⟨g1,g2,fun _ _=>g3⟩
      ·simp only [if_neg h1];cases hfi:bd y1.R.L y1.R.N t.root c.at_ with
       | none=>
        rw [hfi] at hfind;rw [hfind];exact ⟨rfl,w2,fun _ _=>hDn⟩
       | some q=>
        obtain ⟨n,i⟩:=q;rw [hfi] at hfind;simp only [Option.map_some,toSlot] at hfind;rw [hfind];simp only;rcases hC.rel.idx n i with ⟨e1,e2⟩ | ⟨p,hp,e1,e2,k,e3,e4⟩
        ·rw [e1,e2];exact ⟨rfl,w2,fun _ _=>hDn⟩
        ·rw [e1,e3];simp only [List.getElem?_eq_getElem hp,Option.isNone_some];by_cases h5:c.kind=5
         ·simp only [if_pos h5,Bool.false_eq_true,if_false];obtain ⟨g1,g2,g3,g4,g5⟩:=w2.takeB hp yb;rw [e2] at g1 g2 g3;exact ⟨g1,g3,fun hb _=>(g5 (wn hb).1).2.2⟩
         ·simp only [if_neg h5,Bool.false_eq_true,if_false];obtain ⟨g1,g2,g3⟩:=Ag.revoke F1 n i yb w2 (hC.found_ok hfi).1;exact ⟨g1,g2,fun hb _=>g3 (wn hb).1 hDn⟩
    ·rw [if_neg hw,if_neg hw];obtain ⟨g1,g2⟩:=h.core.small t.root c (by omega) _ rfl;generalize hz:(match bd S.R.L S.R.N t.root c.at_ with
      | none=>((2:Int),S.R)
      | some (n,ix)=>match S.R.L.findIdx? (cz n ix) with
       | none=>(4,S.R)
       | some p=>match S.R.L[p]? with
        | none=>(0,S.R)
        | some e=>((bm S.R t.root c p e).1,{S.R with L:=(bm S.R t.root c p e).2}))=z at g1 g2
     have hz2:(match bd S.R.L S.R.N t.root c.at_ with
      | none=>((2:Int),S)
      | some (n,ix)=>match S.R.L.findIdx? (cz n ix) with
       | none=>(4,S)
       | some p=>match S.R.L[p]? with
        | none=>(0,S)
        | some e=>((bm S.R t.root c p e).1,{S with R:={S.R with L:=(bm S.R t.root c p e).2}}))=(z.1,{S with R:=z.2}):=by
      rw [<- hz];cases bd S.R.L S.R.N t.root c.at_ with
      | none=>rfl
      | some q=>
       obtain ⟨n,i⟩:=q;simp only;cases S.R.L.findIdx? (cz n i) with
       | none=>rfl
       | some p=>
        simp only;cases S.R.L[p]? with
        | none=>rfl
        | some e=>rfl
     rw [hz2];have htq:=smallK_tq S'.K t.root c;refine ⟨g1,⟨g2,h.d,fun i hi=>?_,h.q.same htq.2.2 (fun x t e1 e2=>⟨t,?_,e2⟩)⟩,fun _ h=>h⟩
     ·rw [smallK_ws];exact h.ws i hi
     ·show (b_ S'.K (smallK S'.K _ c)).2.thr x=some t;rw [htq.2.1];exact e1
def KGood (S:KS):Prop:=∃R:RS,Ag R S
theorem KGood.step {S:KS}(h:KGood S):KGood (ay S):=by
 obtain ⟨R,h⟩:=h;exact ⟨_,h.step⟩
theorem KGood.at {S:KS}{R:RS}(h:Ag R S){s:Slot}{c:KCap}(hc:S.K.held s=some c):∃(p:Nat) (hp:p<R.R.L.length),R.R.L[p].slot=s:=by
 by_cases hex:∃e∈R.R.L,e.slot=s
 ·obtain ⟨e,he,rfl⟩:=hex;obtain ⟨p,hp,rfl⟩:=List.getElem_of_mem he;exact ⟨p,hp,rfl⟩
 ·have:=h.core.rel.emp s (fun e he e1=>hex ⟨e,he,e1⟩);rw [hc] at this;cases this
theorem KGood.take {S:KS}{s:Slot}{c:KCap}(h:KGood S)(hc:S.K.held s=some c):KGood (ci S s):=by
 obtain ⟨R,h⟩:=h;obtain ⟨p,hp,rfl⟩:=KGood.at h hc;exact ⟨_,h.take hp⟩
theorem KGood.tree {S:KS}(h:KGood S):TreeOk S.K:=by
 obtain ⟨R,h⟩:=h;exact h.core.rel.treeOk
theorem KGood.kids {S:KS}(h:KGood S){s:Slot}{x:Std}(hx:S.K.st s=some x):x.kids.length<=16384:=by
 obtain ⟨R,h⟩:=h;exact h.core.kids hx
theorem KGood.sums {S:KS}(h:KGood S)(a:Slot)(x:Std)(p:Slot)(y:Std)(hx:S.K.st a=some x)(hy:S.K.st p=some y):y.kids.length+x.kids.length<=1000000:=by
 have:=h.kids hx;have:=h.kids hy;omega
theorem KGood.lenD {S:KS}(h:KGood S):S.D.length<=1024:=by
 obtain ⟨R,h⟩:=h;rw [h.d];exact h.core.lenD
theorem KGood.dm {S:KS}(h:KGood S)(d:Int×Int)(hd:d∈S.D):0<=d.2/\d.2<=16:=by
 obtain ⟨R,h⟩:=h;rw [h.d] at hd;have:=h.core.dm d hd;exact ⟨this.2.2.1,this.2.2.2.1⟩
theorem KGood.hen {S:KS}(h:KGood S)(s:Slot)(b n r g:Int)(hc:S.K.held s=some (.endpoint b n r g)):∃q,S.K.qs b=some q:=by
 obtain ⟨R,h⟩:=h;exact h.core.hen s b n r g hc
theorem KGood.qs {S:KS}(h:KGood S)(e:Int)(q:List Wtr×List Wtr)(hq:S.K.qs e=some q):q.1.length<=64/\q.2.length<=64:=by
 obtain ⟨R,h⟩:=h;have h1:=h.q.few h.core;rw [h.q.qs e q hq];exact ⟨Nat.le_trans (side_len _ _ _) h1,Nat.le_trans (side_len _ _ _) h1⟩
theorem KGood.ends {S:KS}(h:KGood S):Ends ay a_ F0 S:=by
 obtain ⟨R,h⟩:=h;exact (h.ends F0 h.mu_le).2
noncomputable def worked (S:KS):KS:=(aj ay a_ F0 S []).1
theorem workG_done {σ:Type}{step:σ->σ}{done:σ->Bool}:∀(n:Nat) (S:σ),done S=true->aj step done n S []=(S,[],true)
 | 0,_,_=>rfl
 | n+1,S,h=>by unfold aj;rw [if_pos h]
theorem workG_all {σ:Type}{step:σ->σ}{done:σ->Bool}:∀(n:Nat) (S:σ),Ends step done n S->(aj step done n S []).2=([],true)/\done (aj step done n S []).1=true
 | 0,S,h=>⟨rfl,h⟩
 | n+1,S,h=>by
  unfold aj;by_cases hd:done S=true
  ·rw [if_pos hd];exact ⟨rfl,hd⟩
  ·rw [if_neg hd];exact workG_all n (step S) (h.resolve_left hd)
theorem KGood.work {S:KS}(h:KGood S):∀(n:Nat),KGood (aj ay a_ n S []).1:=by
 intro n;obtain ⟨R,h⟩:=h;exact ⟨_,(h.work n []).2⟩
theorem KGood.worked {S:KS}(h:KGood S):KGood (worked S)/\(worked S).D=[]/\aj ay a_ F0 S []=(Proofs.YtdpjgflemddekaaGreatDoor.worked S,[],true):=by
 have h1:=workG_all F0 S h.ends;refine ⟨h.work F0,?_,Prod.ext rfl h1.1⟩;have h2:(Proofs.YtdpjgflemddekaaGreatDoor.worked S).D.isEmpty=true:=h1.2;simpa using h2
theorem takeBK_nil {S:KS}{s:Slot}(h:KGood (ci S s)):df S s []=(0,worked (ci S s),[]):=by
 obtain ⟨_,_,e⟩:=h.worked;unfold df;simp [am,e]
theorem revokeK_stop (k:Nat){S:KS}{s:Slot}(hk:ax S.K s=false):cj k S s []=(0,S,[]):=by
 cases k with
 | zero=>rfl
 | succ k=>unfold cj;rw [if_neg (by rw [hk];simp)]
theorem Ag.revStep {R:RS}{S:KS}(h:Ag R S){s:Slot}(hs:0<=s.index)(hk:ax S.K s=true):
 ∃c x,S.K.held (lastC S.K s)=some c/\S.K.st s=some x/\x.kids.getLast?=some (lastC S.K s)/\∃R',Ag R' (worked (ci S (lastC S.K s)))/\R'.R.L.length<R.R.L.length/\∀k,cj (k+1) S s []=cj k (worked (ci S (lastC S.K s))) s []:=by
 have hC:=h.core;obtain ⟨n,i⟩:=s;rcases hC.rel.idx n i with ⟨e1,e2⟩ | ⟨p,hp,e1,e2,c,e3,e4⟩
 ·exfalso
  have:ax S.K ⟨n,i⟩=false:=by
   unfold ax;rw [hC.rel.treeOk.empty _ e2 hs]
  rw [this] at hk;cases hk
 ·obtain ⟨k1,k2⟩:=hC.rel.kidsOf p hp;rw [e2] at k1 k2;obtain ⟨hj,k3,_⟩:=k2 hk;obtain ⟨c',hc',_⟩:=hC.rel.cap _ (List.getElem_mem hj);rw [k3] at hc';obtain ⟨g1,g2,g3,g4,g5⟩:=h.takeB hj [];rw [k3] at g1 g2 g3;have hg:KGood (ci S (lastC S.K ⟨n,i⟩)):=KGood.take ⟨R,h⟩ hc';have e:=takeBK_nil hg;rw [e] at g3;obtain ⟨x,hx⟩:∃x,S.K.st ⟨n,i⟩=some x:=by
   unfold ax at hk;cases hx:S.K.st ⟨n,i⟩ with
   | none=>rw [hx] at hk;cases hk
   | some x=>exact ⟨x,rfl⟩
  have hlast:x.kids.getLast?=some (lastC S.K ⟨n,i⟩):=by
   unfold lastC;rw [hx];simp only;cases hl:x.kids.getLast? with
   | none=>
    rw [List.getLast?_eq_none_iff] at hl;unfold ax at hk;rw [hx] at hk;simp [hl] at hk
   | some y=>rfl
  refine ⟨c',x,hc',hx,hlast,_,g3,g4,fun k=>?_⟩
  rw [cj,if_pos hk,e];simp
noncomputable def takenK (S1:KS)(root:Int)(c:Cl)(f:KS->Slot->KS):Int×KS:=
 match ao S1.K root c.at_ with
 | none=>(2,S1)
 | some s=>if (S1.K.held s).isNone then (4,S1) else (0,f S1 s)
theorem KGood.revoke {S:KS}(h:KGood S)(s:Slot)(hs:0<=s.index):KGood (cj F1 S s []).2.1:=by
 obtain ⟨R,h⟩:=h;exact ⟨_,(h.revoke F1 s.node s.index [] hs).2.1⟩
theorem KGood.reset {S:KS}{f:Slot}{b n m m':Int}(h:KGood S)(hk:S.K.held f=some (.untyped b n m))(hkid:ax S.K f=false)(h0:0<=m')(h1:m'<=m):KGood ⟨bt S.K f b n m m',S.D⟩:=by
 obtain ⟨R,hA⟩:=h;obtain ⟨p,hp,rfl⟩:=KGood.at hA hk;obtain ⟨hC,hD,hws,hQ⟩:=hA;obtain ⟨k,hk2,ht⟩:=hC.rel.cap _ (List.getElem_mem hp);rw [hk] at hk2;cases hk2
 simp only [KCap.told,Ent.told,Prod.mk.injEq] at ht;obtain ⟨a1,a2,a3,a4,a5,a6⟩:=ht;have hcap:=hC.cap _ _ hk;simp only [KCap.base,KCap.bits,KCap.mark] at hcap;have hC1:=hC.setMark hp hk (m':=m') (.inr hkid) h0 (by omega);refine ⟨⟨{R.R with L:=R.R.L.set p {R.R.L[p] with mark:=m'}},R.D,clrW R.ws (b+m') (m-m'),R.q⟩,⟨⟨hC1.rel.cap,hC1.rel.emp,hC1.rel.tree,hC1.rel.nodes,hC1.rel.thr⟩,hC1.geo,hC1.inN,hC1.dm,hC1.dn,hC1.nod,hC1.cap,hC1.hno,hC1.thd,hC1.hth,hC1.que,hC1.hen,hC1.nd,hC1.td,hC1.nb,hC1.tb,hC1.rt,hC1.dap⟩,hD,?_,hQ.same rfl (fun _ t e1 e2=>⟨t,e1,e2⟩)⟩;exact clr_agree hws _ _
theorem resetM_nil {m:Int}(h:m<=1024)(h0:0<=m):(aw m []).2.2=true/\0<=(aw m []).1/\(aw m []).1<=m:=by
 have h1:=workG_all 100 m (reset_ends 100 m (by omega));have h2:=reset_range 100 m [] h0;refine ⟨?_,h2⟩;show (aj _ _ 100 m []).2.2=true;rw [h1.1]
theorem KGood.retypeOk {S:KS}(h:KGood S):RetypeOk S.K:=by
 obtain ⟨R,h⟩:=h;exact h.core.retypeOk
theorem KGood.untyped {S:KS}(h:KGood S){f:Slot}{b n m:Int}(hk:S.K.held f=some (.untyped b n m)):0<=b/\b<=1024/\0<=m/\m<=1024/\0<=n/\n<=10/\b+m<=1024:=by
 obtain ⟨⟨u1,u2⟩,⟨u3,u4⟩,u5,u6⟩:=h.retypeOk.u f b n m hk;obtain ⟨R,h⟩:=h;have:=h.core.cap _ _ hk;simp only [KCap.base,KCap.bits,KCap.mark] at this;omega
end Go.Proofs.YtdpjgflemddekaaGreatDoor

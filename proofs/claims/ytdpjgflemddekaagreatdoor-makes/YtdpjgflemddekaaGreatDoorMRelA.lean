/- The relation between the document's lists and the code's kernel; it holds on behind a capability that is laid, and behind one that is moved. Nothing of the program's text. -/
import Derived.Test.YtdpjgflemddekaaGreatDoorMMapA
import Derived.Test.YtdpjgflemddekaaGreatDoorMBaseRet
namespace Go.Proofs.YtdpjgflemddekaaGreatDoor
def KCap.told:KCap->Int×Int×Int×Int×Int×Int
 | .untyped b n m=>(1,b,n,7,0,m)
 | .node b n r=>(2,b,n,r,0,0)
 | .endpoint b n r g=>(3,b,n,r,g,0)
 | .task b n r=>(4,b,n,r,0,0)
 | .frame b n r=>(5,b,n,r,0,0)
def aw.told (e:aw):Int×Int×Int×Int×Int×Int:=(e.ty,e.base,e.bits,e.rights,e.badge,e.mark)
def ej.thd (t:ej):oz:=⟨t.state,t.root,t.value,t.badge,t.err⟩
structure ii (L:List aw)(st:Slot->Option nw)(F:Fo):Prop where
 nodup:F.slots.Nodup
 top:nowhere∉F.slots
 flat:L.map aw.key=F.flat 0
 stands:F.In st nowhere
 roots:∃x,st nowhere=some x/\x.kids=F.roots
 only:∀s x,st s=some x->s∈F.slots\/s=nowhere
structure yi (R:dq)(K:a_):Prop where
 cap:∀e∈R.L,∃c,K.held e.slot=some c/\c.told=e.told
 emp:∀s,(∀e∈R.L,e.slot≠s)->K.held s=none
 tree:∃F,ii R.L K.st F
 nodes:∀b,(K.nodes b).getD 0=bf R.N b
 thr:∀b,K.thr b=(R.T.find? (af b)).map ej.thd
theorem at5 (L:List aw):(L.map aw.key).map Prod.fst=L.map aw.slot:=by simp [aw.key,Function.comp_def]
theorem ii.slots {L:List aw}{st:Slot->Option nw}{F:Fo}(h:ii L st F):F.slots=L.map aw.slot:=by
 rw [<- Fo.flat_slots F 0,<- h.flat,at5]
theorem ii.nd {L:List aw}{st:Slot->Option nw}{F:Fo}(h:ii L st F):(L.map aw.slot).Nodup:=h.slots▸h.nodup
theorem ab8 {L:List aw}(hn:(L.map aw.slot).Nodup){A B C:List (Slot×Int)}{s:Slot}{u:Int}(h:L.map aw.key=A++(s,u) :: (B++C)){p:Nat}(hp:p<L.length)(hs:L[p].slot=s):
 A.length=p/\L[p].up=u:=by
 have hl:A.length<L.length:=by have:=congrArg List.length h;simp at this;omega
 have h1:(L.map aw.key)[A.length]?=some (s,u):=by rw [h];simp
 have h2:L[A.length].key=(s,u):=by simpa [hl] using h1
 have h3:L[A.length].slot=L[p].slot:=by rw [hs];exact congrArg Prod.fst h2
 have h4:A.length=p:=by
  have e1:(L.map aw.slot)[A.length]'(by simpa using hl)=(L.map aw.slot)[p]'(by simpa using hp):=by simpa using h3
  exact (List.getElem_inj hn).1 e1
 subst h4;exact ⟨rfl,congrArg Prod.snd h2⟩
theorem bd3 {L:List aw}{A B C:List (Slot×Int)}{s:Slot}{u:Int}(h:L.map aw.key=A++(s,u) :: (B++C))(hB:∀x∈B,u<x.2)(hC:∀x∈C.head?,x.2<=u):
 ie L A.length u=A.length+1+B.length:=by
 unfold ie;congr 1;have hd:(L.drop (A.length+1)).map aw.key=B++C:=by
  rw [List.map_drop,h];rw [show A++(s,u) :: (B++C)=(A++[(s,u)])++(B++C) by simp];rw [List.drop_append_of_le_length (by simp)];simp
 generalize L.drop (A.length+1)=D at hd;clear h;induction B generalizing D with
 | nil=>
  cases D with
  | nil=>rfl
  | cons e D=>
   simp only [List.map_cons,List.nil_append] at hd;subst hd;have:=hC e.key (by simp);simp only [aw.key] at this;simp [List.takeWhile_cons,below];omega
 | cons b B ih=>
  cases D with
  | nil=>simp at hd
  | cons e D=>
   simp only [List.map_cons,List.cons_append,List.cons.injEq] at hd;have h1:=hB b (by simp);rw [<- hd.1] at h1;simp only [aw.key] at h1;simp only [List.takeWhile_cons,below,decide_eq_true h1,if_true,List.length_cons];rw [ih (fun x hx=>hB x (by simp [hx])) D hd.2]
theorem b36 {L:List aw}{A B C:List (Slot×Int)}{s:Slot}{u:Int}(h:L.map aw.key=A++(s,u) :: (B++C))(hB:∀x∈B,u<x.2)(hC:∀x∈C.head?,x.2<=u)(x:aw):
 (ns L A.length u x).map aw.key=A++(s,u) :: (B++(x.slot,u+1) :: C):=by
 unfold ns;rw [bd3 h hB hC,List.map_append,List.map_cons,List.map_take,List.map_drop,h];have e1:A++(s,u) :: (B++C)=(A++(s,u) :: B)++C:=by simp
 have e2:A.length+1+B.length=(A++(s,u) :: B).length:=by simp;omega
 rw [e1,e2,List.take_left,List.drop_left];simp [aw.key,aw.slot]
theorem at8 {L:List aw}{i:Nat}{u:Int}{x y:aw}:y∈ns L i u x ↔ y∈L\/y={x with up:=u+1}:=by
 unfold ns;rw [List.mem_append,List.mem_cons];constructor
 ·rintro (h | h | h)
  ·exact .inl (List.mem_of_mem_take h)
  ·exact .inr h
  ·exact .inl (List.mem_of_mem_drop h)
 ·rintro (h | h)
  ·rw [<- List.take_append_drop (ie L i u) L,List.mem_append] at h;rcases h with h | h
   ·exact .inl h
   ·exact .inr (.inr h)
  ·exact .inr (.inl h)
theorem ii.lay {L:List aw}{st:Slot->Option nw}{F:Fo}(h:ii L st F){p:Nat}(hp:p<L.length)(x:aw)(hx:x.slot∉F.slots)(hx2:x.slot≠nowhere):
 ii (ns L p L[p].up x) (addS st x.slot L[p].slot) (F.add L[p].slot x.slot):=by
 have hmem:L[p].slot∈F.slots:=by rw [h.slots];exact List.mem_map.2 ⟨_,List.getElem_mem hp,rfl⟩
 obtain ⟨A,B,C,u,e1,hB,hC,_,e2⟩:=Fo.flat_add L[p].slot x.slot F 0 h.nodup hmem;rw [<- h.flat] at e1;obtain ⟨r1,r2⟩:=ab8 h.nd e1 hp rfl;have hne:L[p].slot≠x.slot:=fun e=>hx (e▸hmem)
 have hpn:L[p].slot≠nowhere:=fun e=>h.top (e▸hmem)
 refine ⟨Fo.nodup_add _ _ F h.nodup hx,?_,?_,?_,?_,?_⟩
 ·intro h1;rcases Fo.slots_add _ _ F _ h1 with h2 | h2
  ·exact h.top h2
  ·exact hx2 h2.symm
 ·rw [e2,r2,<- b36 e1 hB hC x,r1]
 ·refine Fo.In.add (st:=st) ?_ ?_ ?_ h.nodup hx h.stands
  ·simp only [addS];rw [ae _ _ (Ne.symm hne),ai]
  ·intro y hy;refine ⟨⟨y.parent,y.kids++[x.slot]⟩,?_,rfl,rfl⟩;simp only [addS];rw [ai,ae _ _ hne,hy];rfl
  ·intro s h1 h2;simp only [addS];rw [ae _ _ h1,ae _ _ h2]
 ·obtain ⟨y,e3,e4⟩:=h.roots;refine ⟨y,?_,by rw [Fo.add_roots];exact e4⟩;simp only [addS];rw [ae _ _ (Ne.symm hpn),ae _ _ (Ne.symm hx2)];exact e3
 ·intro s y hy;have hsl:∀z,z∈F.slots\/z=x.slot->z∈(F.add L[p].slot x.slot).slots:=by
   intro z hz;rw [<- Fo.flat_slots _ 0,e2];have e3:F.slots=(A++(L[p].slot,u) :: (B++C)).map Prod.fst:=by rw [<- Fo.flat_slots F 0,<- h.flat,e1]
   rw [e3] at hz;simp only [List.map_append,List.map_cons,List.mem_append,List.mem_cons] at hz ⊢;rcases hz with (h1 | h1 | h1 | h1) | h1
   ·exact .inl h1
   ·exact .inr (.inl h1)
   ·exact .inr (.inr (.inl h1))
   ·exact .inr (.inr (.inr (.inr h1)))
   ·exact .inr (.inr (.inr (.inl h1)))
  by_cases h1:s=L[p].slot
  ·exact .inl (hsl s (.inl (h1▸hmem)))
  ·by_cases h2:s=x.slot
   ·exact .inl (hsl s (.inr h2))
   ·simp only [addS] at hy;rw [ae _ _ h1,ae _ _ h2] at hy;rcases h.only s y hy with h3 | h3
    ·exact .inl (hsl s (.inl h3))
    ·exact .inr h3
theorem yi.lay {R:dq}{K:a_}(h:yi R K){p:Nat}(hp:p<R.L.length)(x:aw)(hx:∀e∈R.L,e.slot≠x.slot)(hx2:x.slot≠nowhere)(c:KCap)(hc:c.told=x.told):
 yi {R with L:=ns R.L p R.L[p].up x} (K.lay x.slot c R.L[p].slot):=by
 obtain ⟨F,hF⟩:=h.tree;have hxF:x.slot∉F.slots:=by
  rw [hF.slots];intro h1;obtain ⟨e,he,e1⟩:=List.mem_map.1 h1;exact hx e he e1
 refine ⟨?_,?_,⟨_,hF.lay hp x hxF hx2⟩,h.nodes,h.thr⟩
 ·intro e he;rcases at8.1 he with h1 | rfl
  ·obtain ⟨c',e1,e2⟩:=h.cap e h1;exact ⟨c',by simp only [a_.lay];rw [ae _ _ (hx e h1)];exact e1,e2⟩
  ·exact ⟨c,by simp only [a_.lay];exact ai _ _ _,hc⟩
 ·intro s hs;simp only [a_.lay];rw [ae _ _ (fun e=>hs {x with up:=R.L[p].up+1} (at8.2 (.inr rfl)) e.symm)]
  exact h.emp s (fun e he=>hs e (at8.2 (.inl he)))
def bt (K:a_)(b:Int):Int:=(K.nodes b).getD 0
def okK (K:a_)(nd x:Int):Bool:=decide (0<=x) && decide (x<bt K nd)
def nf (K:a_)(s:Slot):Option Int:=
 match K.held s with
 | some (.node b _ _)=>some b
 | _=>none
def goK (K:a_):Int->List Int->Option Slot
 | _,[]=>none
 | nd,[x]=>if okK K nd x then some ⟨nd,x⟩ else none
 | nd,x :: y :: r=>if okK K nd x then (match nf K ⟨nd,x⟩ with
  | some nd'=>goK K nd' (y :: r)
  | none=>none) else none
def yh (K:a_):Slot->List Int->Option Slot
 | s,[]=>some s
 | s,y :: r=>match nf K s with
  | some nd=>if okK K nd y then yh K ⟨nd,y⟩ r else none
  | none=>none
def az (K:a_)(root:Int)(l:List Int):Option Slot:=if l.length<1\/3<l.length then none else goK K root l
def fj (c:KCap)(r:Int):KCap:=
 match c with
 | .untyped b n m=>.untyped b n m
 | .node b n q=>.node b n (gp q r)
 | .endpoint b n q g=>.endpoint b n (gp q r) g
 | .task b n q=>.task b n (gp q r)
 | .frame b n q=>.frame b n (gp q r)
def cj (K:a_)(root:Int)(l:List Int)(k:KCap)(p:Slot):Option (Int×a_):=
 match az K root l with
 | none=>none
 | some s=>if (K.held s).isSome then some (4,K) else some (0,K.lay s k p)
def KCap.isU:KCap->Bool
 | .untyped _ _ _=>true
 | _=>false
def jr (K:a_)(root:Int)(c:Cl):Option (Int×a_):=
 match az K root c.at_ with
 | none=>none
 | some s=>match K.held s with
  | none=>some (4,K)
  | some k=>if k.isU then some (3,K) else if 0<=c.rights/\c.rights<=7 then cj K root c.to (fj k c.rights) s else some (7,K)
def KCap.isE:KCap->Bool
 | .endpoint _ _ _ _=>true
 | _=>false
def ia (K:a_)(root:Int)(c:Cl):Option (Int×a_):=
 match az K root c.at_ with
 | none=>none
 | some s=>match K.held s with
  | none=>some (4,K)
  | some k=>match k with
   | .endpoint b n q g=>if g≠0 then some (5,K) else if (0<=c.rights/\c.rights<=7)/\1<=c.badge/\c.badge<=65535 then cj K root c.to (fj (.endpoint b n q c.badge) c.rights) s else some (7,K)
   | _=>some (3,K)
def f_ (st:Slot->Option nw)(l:List Slot)(b:Slot):Slot->Option nw:=fun s=>if s∈l then (st s).map (fun y=>⟨b,y.kids⟩) else st s
def rc (st:Slot->Option nw)(a b:Slot):Slot->Option nw:=
 match st a with
 | none=>st
 | some x=>
  let s1:=upd (upd st a none) b (some x)
  let s2:=match s1 x.parent with
   | none=>s1
   | some y=>upd s1 x.parent (some ⟨y.parent,y.kids.map fun k=>if k=a then b else k⟩)
  f_ s2 x.kids b
def a_.move (K:a_)(s t:Slot)(k:KCap):a_:={K with held:=upd (upd K.held s none) t (some k),st:=rc K.st s t}
def kw (K:a_)(root:Int)(c:Cl):Option (Int×a_):=
 match az K root c.at_ with
 | none=>none
 | some s=>match K.held s with
  | none=>some (4,K)
  | some k=>match az K root c.to with
   | none=>none
   | some t=>if (K.held t).isSome then some (4,K) else some (0,K.move s t k)
structure ap3 (K:a_):Prop where
 full:∀s k,K.held s=some k->∃x y,K.st s=some x/\K.st x.parent=some y/\x.parent≠s/\s∈y.kids/\y.kids.Nodup/\∀c∈x.kids,(∃z,K.st c=some z)/\c≠s
 empty:∀t,K.held t=none->0<=t.index->K.st t=none
def c_ (K:a_)(s:Slot):Bool:=match K.st s with
 | some x=>decide (0<x.kids.length)
 | none=>false
def o9:Int->Int
 | 1=>4
 | 2=>3
 | 3=>2
 | 4=>4
 | 5=>2
 | _=>1
def sr:Int->Int
 | 1=>10
 | 2=>6
 | 3=>2
 | 4=>4
 | 5=>6
 | _=>0
def jo (ty bits:Int):Bool:=decide (0<=ty/\ty<6) && (decide (o9 ty<=bits) && decide (bits<=sr ty))
def ci (s:Slot)(n:Nat):List Slot:=(List.range n).map fun (i:Nat)=>⟨s.node,s.index+(i:Int)⟩
def ah2 (K:a_)(root:Int)(l:List Int)(n:Nat):Option (Slot×Bool):=
 match az K root l with
 | none=>none
 | some s=>if okK K s.node (s.index+n-1) then some (s,(ci s n).all fun t=>(K.held t).isNone) else none
def ki (ty b n:Int):KCap:=
 if ty=1 then .untyped b n 0 else if ty=2 then .node b n 7 else if ty=3 then .endpoint b n 7 0 else if ty=4 then .task b n 7 else .frame b n 7
def a_.found (K:a_)(t:Slot)(c:KCap)(p:Slot)(root:Int):a_:=
 match c with
 | .node b n _=>a_.lay {K with nodes:=upd K.nodes b (some (pw n.toNat / 4))} t c p
 | .task b _ _=>a_.lay {K with thr:=upd K.thr b (some ⟨1,root,0,0,0⟩)} t c p
 | .endpoint b _ _ _=>a_.lay {K with qs:=upd K.qs b (some ([],[]))} t c p
 | _=>K.lay t c p
def dc (K:a_)(from_:Slot)(s:Slot)(ty bits root st:Int):Nat->a_
 | 0=>K
 | i+1=>(dc K from_ s ty bits root st i).found ⟨s.node,s.index+(i:Int)⟩ (ki ty (st+i*pw bits.toNat) bits) from_ root
def ld (K:a_)(from_ s:Slot)(ty bits root b n m:Int)(cnt:Nat):Int×a_:=
 if b+pw n.toNat<nu (b+m) (pw bits.toNat)+cnt*pw bits.toNat then (6,K)
 else (0,{dc K from_ s ty bits root (nu (b+m) (pw bits.toNat)) cnt with
  held:=upd (dc K from_ s ty bits root (nu (b+m) (pw bits.toNat)) cnt).held from_ (some (.untyped b n (nu (b+m) (pw bits.toNat)+cnt*pw bits.toNat-b)))})
structure ap1 (K:a_):Prop where
 u:∀f b n m,K.held f=some (.untyped b n m)->(0<=b/\b<=1024)/\(0<=m/\m<=1024)/\(0<=n/\n<=10)
 kids:∀f x,K.st f=some x->x.kids.length<=900000
 slots:∀b,bt K b<=1000000
def aa2:a_:=⟨fun _=>none,fun _=>none,fun _=>none,fun _=>none,fun _=>0,fun _=>none⟩
def kj:a_:=((aa2.lay ⟨0,0⟩ (.untyped 0 10 80) nowhere).found ⟨0,1⟩ (.node 0 6 7) ⟨0,0⟩ 0).found ⟨0,2⟩ (.task 64 4 7) ⟨0,0⟩ 0
theorem Fo.roots_sublist:∀(F:Fo),F.roots.Sublist F.slots
 | .nil=>List.Sublist.refl _
 | .node s kids next=>by
  simp only [Fo.roots,Fo.slots];exact List.Sublist.cons_cons s ((Fo.roots_sublist next).trans (List.sublist_append_right _ _))
theorem Fo.In.roots {st:Slot->Option nw}:∀{F:Fo} {p:Slot},F.In st p->∀c∈F.roots,∃z,st c=some z/\z.parent=p
 | .nil,_,_,c,h=>by simp [Fo.roots] at h
 | .node s kids next,p,⟨⟨x,h1,h2,_⟩,_,h5⟩,c,h=>by
  simp only [Fo.roots,List.mem_cons] at h;rcases h with rfl | h
  ·exact ⟨x,h1,h2⟩
  ·exact h5.roots c h
theorem Fo.In.fact {st:Slot->Option nw}:∀{F:Fo} {p:Slot},F.In st p->F.slots.Nodup->∀s∈F.slots,∃x,st s=some x/\s∉x.kids/\x.kids.Nodup/\x.kids.length<=F.slots.length/\
 (∀c∈x.kids,c∈F.slots/\∃z,st c=some z/\z.parent=s)/\((x.parent=p/\s∈F.roots)\/(x.parent∈F.slots/\∃y,st x.parent=some y/\s∈y.kids/\y.kids.Nodup))
 | .nil,_,_,_,s,h=>by simp [Fo.slots] at h
 | .node s0 kids next,p,⟨⟨x,h1,h2,h3⟩,h4,h5⟩,hn,s,h=>by
  simp only [Fo.slots,List.nodup_cons,List.mem_append,not_or,List.nodup_append] at hn;simp only [Fo.slots,List.mem_cons,List.mem_append,List.length_cons,List.length_append] at h ⊢;rcases h with rfl | h | h
  ·refine ⟨x,h1,?_,?_,?_,?_,.inl ⟨h2,by simp [Fo.roots]⟩⟩
   ·rw [h3];exact fun h=>hn.1.1 (Fo.roots_sub kids s h)
   ·rw [h3];exact (Fo.roots_sublist kids).nodup hn.2.1
   ·rw [h3];have:=(Fo.roots_sublist kids).length_le;omega
   ·intro c hc;rw [h3] at hc;exact ⟨.inr (.inl (Fo.roots_sub kids c hc)),h4.roots c hc⟩
  ·obtain ⟨y,r1,r2,r3,r4,r5,r6⟩:=h4.fact hn.2.1 s h;refine ⟨y,r1,r2,r3,by omega,fun c hc=>⟨.inr (.inl (r5 c hc).1),(r5 c hc).2⟩,?_⟩
   rcases r6 with ⟨e1,e2⟩ | ⟨e1,e2⟩
   ·exact .inr ⟨.inl e1,x,by rw [e1];exact h1,by rw [h3];exact e2,by rw [h3];exact (Fo.roots_sublist kids).nodup hn.2.1⟩
   ·exact .inr ⟨.inr (.inl e1),e2⟩
  ·obtain ⟨y,r1,r2,r3,r4,r5,r6⟩:=h5.fact hn.2.2.1 s h;refine ⟨y,r1,r2,r3,by omega,fun c hc=>⟨.inr (.inr (r5 c hc).1),(r5 c hc).2⟩,?_⟩
   rcases r6 with ⟨e1,e2⟩ | ⟨e1,e2⟩
   ·exact .inl ⟨e1,by simp [Fo.roots,e2]⟩
   ·exact .inr ⟨.inr (.inr e1),e2⟩
theorem yn {a b:Slot}{l:List Slot}(h:a∉l):l.map (fun k=>if k=a then b else k)=l:=by
 induction l with
 | nil=>rfl
 | cons x l ih=>
  simp only [List.mem_cons,not_or] at h;rw [List.map_cons,ih h.2,if_neg (Ne.symm h.1)]
theorem ii.move {L:List aw}{st:Slot->Option nw}{F:Fo}(h:ii L st F){p:Nat}(hp:p<L.length)(n i:Int)(hb:(⟨n,i⟩:Slot)∉F.slots)(hb2:(⟨n,i⟩:Slot)≠nowhere):
 ii (L.set p {L[p] with node:=n,index:=i}) (rc st L[p].slot ⟨n,i⟩) (F.ren L[p].slot ⟨n,i⟩):=by
 have hmem:L[p].slot∈F.slots:=by rw [h.slots];exact List.mem_map.2 ⟨_,List.getElem_mem hp,rfl⟩
 have hflat:=h.flat;have hnd:=h.nd;generalize ha:L[p].slot=a at *
 generalize hbb:(⟨n,i⟩:Slot)=b at *
 obtain ⟨x,hx,x1,x2,x3,x4,x5⟩:=h.stands.fact h.nodup a hmem;obtain ⟨rt,hr1,hr2⟩:=h.roots;have hab:a≠b:=fun e=>hb (e▸hmem)
 have han:a≠nowhere:=fun e=>h.top (e▸hmem)
 have hpa:x.parent≠a:=by
  rcases x5 with ⟨e,_⟩ | ⟨_,y,e2,e3,_⟩
  ·rw [e];exact Ne.symm han
  ·intro e;rw [e,hx] at e2;cases e2;exact x1 e3
 have hpb:x.parent≠b:=by
  rcases x5 with ⟨e,_⟩ | ⟨e,_⟩
  ·rw [e];exact Ne.symm hb2
  ·intro e2;exact hb (e2▸e)
 have hbk:b∉x.kids:=fun e=>hb (x4 b e).1
 obtain ⟨y,hy,hy2⟩:∃y,st x.parent=some y/\a∈y.kids:=by
  rcases x5 with ⟨e,e2⟩ | ⟨_,y,e2,e3,_⟩
  ·exact ⟨rt,by rw [e];exact hr1,by rw [hr2];exact e2⟩
  ·exact ⟨y,e2,e3⟩
 have hs1p:(upd (upd st a none) b (some x)) x.parent=some y:=by rw [ae _ _ hpb,ae _ _ hpa];exact hy
 have hmv:rc st a b=f_ (upd (upd (upd st a none) b (some x)) x.parent (some ⟨y.parent,y.kids.map fun k=>if k=a then b else k⟩)) x.kids b:=by
  unfold rc;rw [hx];simp only [hs1p]
 -- the new stands
 have hstb:rc st a b b=some x:=by
  rw [hmv];unfold f_;rw [if_neg hbk,ae _ _ (Ne.symm hpb),ai]
 have hsta:rc st a b a=none:=by
  rw [hmv];unfold f_;rw [if_neg x1,ae _ _ (Ne.symm hpa),ae _ _ hab,ai]
 have hsto:∀s,s≠a->s≠b->∀z,st s=some z->rc st a b s=some ⟨if s∈x.kids then b else z.parent,if s=x.parent then z.kids.map (fun k=>if k=a then b else k) else z.kids⟩:=by
  intro s h1 h2 z hz;rw [hmv];unfold f_;by_cases h3:s=x.parent
  ·have hz':z=y:=by rw [h3,hy] at hz;exact (Option.some.inj hz).symm
   subst hz';rw [<- h3,ai];by_cases h4:s∈x.kids
   ·simp [h4]
   ·simp [h4]
  ·rw [ae _ _ h3,ae _ _ h2,ae _ _ h1,hz];by_cases h4:s∈x.kids
   ·simp [h4,h3]
   ·simp [h4,h3]
 refine ⟨Fo.nodup_ren a b F h.nodup hb,?_,?_,?_,?_,?_⟩
 ·rw [Fo.slots_ren];intro e;obtain ⟨s,e1,e2⟩:=List.mem_map.1 e;by_cases e3:s=a
  ·rw [if_pos e3] at e2;exact hb2 e2
  ·rw [if_neg e3] at e2;exact h.top (e2▸e1)
 ·rw [Fo.flat_ren,<- hflat,List.map_set];apply List.ext_getElem
  ·simp
  ·intro j h1 h2;have hj:j<L.length:=by simpa using h1
   rw [List.getElem_set];by_cases hpj:p=j
   ·subst hpj;rw [if_pos rfl];simp only [List.getElem_map,aw.key];rw [if_pos ha];exact Prod.ext hbb rfl
   ·rw [if_neg hpj];simp only [List.getElem_map,aw.key];rw [if_neg ?_];intro e;have e0:L[j].slot=L[p].slot:=e.trans ha.symm;have e1:(L.map aw.slot)[j]'(by simpa using hj)=(L.map aw.slot)[p]'(by simpa using hp):=by simpa using e0
    exact hpj ((List.getElem_inj hnd).1 e1).symm
 ·have hin:=Fo.In.ren (st:=st) (st':=rc st a b) (a:=a) (b:=b) (F:=F) (q:=nowhere) ?_ h.stands
  ·rw [if_neg (Ne.symm han)] at hin;exact hin
  ·intro s hs z hz;by_cases h1:s=a
   ·subst h1;rw [hx] at hz;cases hz
    rw [if_pos rfl];exact ⟨x,hstb,by rw [if_neg hpa],by rw [yn x1]⟩
   ·rw [if_neg h1];have h2:s≠b:=fun e=>hb (e▸hs)
    refine ⟨_,hsto s h1 h2 z hz,?_,?_⟩
    ·obtain ⟨z',e1,_,_,_,_,e5⟩:=h.stands.fact h.nodup s hs;rw [hz] at e1;cases e1
     by_cases h3:s∈x.kids
     ·obtain ⟨_,z2,e6,e7⟩:=x4 s h3;rw [hz] at e6;cases e6
      rw [if_pos h3,if_pos e7]
     ·have hne:¬z.parent=a:=by
       intro e;rcases e5 with ⟨e6,_⟩ | ⟨_,y2,e6,e7,_⟩
       ·exact han (e▸e6)
       ·rw [e,hx] at e6;cases e6;exact h3 e7
      simp only [if_neg h3,if_neg hne]
    ·by_cases h3:s=x.parent
     ·rw [if_pos h3]
     ·rw [if_neg h3,yn ?_];intro e;obtain ⟨z',e1,_,_,_,e4,_⟩:=h.stands.fact h.nodup s hs;rw [hz] at e1;cases e1
      obtain ⟨_,z2,e6,e7⟩:=e4 a e;rw [hx] at e6;cases e6
      exact h3 e7.symm
 ·have hnk:nowhere∉x.kids:=fun e=>h.top (x4 _ e).1
  refine ⟨_,hsto nowhere (Ne.symm han) (Ne.symm hb2) rt hr1,?_⟩;rw [Fo.roots_ren];by_cases h3:nowhere=x.parent
  ·simp only [if_pos h3,hr2]
  ·simp only [if_neg h3];rw [yn ?_,hr2];intro e;obtain ⟨z,e1,e2⟩:=h.stands.roots a e;rw [hx] at e1;cases e1
   exact h3 e2.symm
 ·intro s z hz;have h1:s≠a:=fun e=>by rw [e,hsta] at hz;cases hz
  rw [Fo.slots_ren];by_cases h2:s=b
  ·exact .inl (List.mem_map.2 ⟨a,hmem,by rw [if_pos rfl,h2]⟩)
  ·have h3:∃z',st s=some z':=by
    rw [hmv] at hz;unfold f_ at hz;by_cases h4:s=x.parent
    ·exact ⟨y,by rw [h4];exact hy⟩
    ·rw [ae _ _ h4,ae _ _ h2,ae _ _ h1] at hz;cases hst:st s with
     | none=>rw [hst] at hz;split at hz<;>simp at hz
     | some z'=>exact ⟨z',rfl⟩
   obtain ⟨z',h3⟩:=h3;rcases h.only s z' h3 with h4 | h4
   ·exact .inl (List.mem_map.2 ⟨s,h4,by rw [if_neg h1]⟩)
   ·exact .inr h4
namespace Fo
def app:Fo->Fo->Fo
 | nil,G=>G
 | node s kids next,G=>node s kids (app next G)
theorem zm:∀(F G:Fo) (d:Int),(F.app G).flat d=F.flat d++G.flat d
 | nil,_,_=>rfl
 | node s kids next,G,d=>by simp [app,flat,zm next G]
theorem roots_app:∀(F G:Fo),(F.app G).roots=F.roots++G.roots
 | nil,_=>rfl
 | node s kids next,G=>by simp [app,roots,roots_app next G]
theorem slots_app (F G:Fo):(F.app G).slots=F.slots++G.slots:=by
 rw [<- flat_slots _ 0,zm,List.map_append,flat_slots,flat_slots]
theorem In_app {st:Slot->Option nw}{p:Slot}:∀{F G:Fo},F.In st p->G.In st p->(F.app G).In st p
 | nil,_,_,h=>h
 | node _ _ _,_,⟨h1,h2,h3⟩,h=>⟨h1,h2,In_app h3 h⟩
def less (x:Slot×Int):Slot×Int:=(x.1,x.2-1)
theorem xu:∀(F:Fo) (d:Int),(F.flat (d+1)).map less=F.flat d
 | nil,_=>rfl
 | node s kids next,d=>by
  simp only [flat,List.map_cons,List.map_append,xu next d,xu kids (d+1),less];rw [show d+1-1=d by omega]
def rem (a:Slot):Fo->Fo
 | nil=>nil
 | node s kids next=>if s=a then kids.app next else node s (rem a kids) (rem a next)
theorem ac7 (a:Slot):∀(F:Fo),a∉F.slots->F.rem a=F
 | nil,_=>rfl
 | node s kids next,h=>by
  simp only [slots,List.mem_cons,List.mem_append,not_or] at h;simp [rem,Ne.symm h.1,ac7 a kids h.2.1,ac7 a next h.2.2]
theorem flat_rem (a:Slot):∀(F:Fo) (d:Int),F.slots.Nodup->a∈F.slots->∃A B C u,F.flat d=A++(a,u) :: (B++C)/\(∀x∈B,u<x.2)/\(∀x∈C.head?,x.2<=u)/\d<=u/\
 (F.rem a).flat d=A++(B.map less++C)
 | nil,_,_,h=>by simp [slots] at h
 | node s kids next,d,hn,h=>by
  simp only [slots,List.nodup_cons,List.mem_append,not_or,List.nodup_append] at hn;simp only [slots,List.mem_cons,List.mem_append] at h;by_cases hs:s=a
  ·subst hs;refine ⟨[],kids.flat (d+1),next.flat d,d,by simp [flat],fun x hx=>by have:=flat_ge kids (d+1) x hx;omega,fun x hx=>by rw [flat_head next d x hx];omega,Int.le_refl _,?_⟩
   simp [rem,zm,xu]
  ·rcases h with h | h | h
   ·exact absurd h.symm hs
   ·have hnx:a∉next.slots:=fun h2=>hn.2.2.2 a h a h2 rfl
    obtain ⟨A,B,C,u,e1,hB,hC,hd,e2⟩:=flat_rem a kids (d+1) hn.2.1 h;refine ⟨(s,d) :: A,B,C++next.flat d,u,by simp [flat,e1],hB,?_,by omega,?_⟩
    ·intro x hx;cases C with
     | nil=>simp at hx;have:=flat_head next d x hx;omega
     | cons c C=>exact hC x (by simpa using hx)
    ·simp [rem,hs,flat,e2,ac7 a next hnx]
   ·have hnk:a∉kids.slots:=fun h2=>hn.2.2.2 a h2 a h rfl
    obtain ⟨A,B,C,u,e1,hB,hC,hd,e2⟩:=flat_rem a next d hn.2.2.1 h;refine ⟨(s,d) :: (kids.flat (d+1)++A),B,C,u,by simp [flat,e1],hB,hC,hd,?_⟩;simp [rem,hs,flat,e2,ac7 a kids hnk]
def cut (a:Slot):Fo->Fo
 | nil=>nil
 | node s kids next=>if s=a then next else node s kids (cut a next)
def sub (a:Slot):Fo->Fo
 | nil=>nil
 | node s kids next=>if s=a then kids else sub a next
def remTop (a:Slot)(F:Fo):Fo:=(F.cut a).app (F.sub a)
theorem az5 (a:Slot):∀(F:Fo) (d:Int),a∈F.roots->∃A C,F.flat d=A++(a,d) :: ((F.sub a).flat (d+1)++C)/\(∀x∈C.head?,x.2<=d)/\(F.cut a).flat d=A++C
 | nil,_,h=>by simp [roots] at h
 | node s kids next,d,h=>by
  by_cases hs:s=a
  ·subst hs;exact ⟨[],next.flat d,by simp [flat,sub],fun x hx=>by rw [flat_head next d x hx];omega,by simp [cut]⟩
  ·simp only [roots,List.mem_cons] at h;obtain ⟨A,C,e1,e2,e3⟩:=az5 a next d (h.resolve_left (Ne.symm hs));exact ⟨(s,d) :: (kids.flat (d+1)++A),C,by simp [flat,sub,hs,e1],e2,by simp [flat,cut,hs,e3]⟩
theorem flat_remTop (a:Slot)(F:Fo)(d:Int)(h:a∈F.roots):∃A B C,F.flat d=A++(a,d) :: (B++C)/\(∀x∈B,d<x.2)/\(∀x∈C.head?,x.2<=d)/\(F.remTop a).flat d=A++(C++B.map less):=by
 obtain ⟨A,C,e1,e2,e3⟩:=az5 a F d h;refine ⟨A,(F.sub a).flat (d+1),C,e1,fun x hx=>by have:=flat_ge _ (d+1) x hx;omega,e2,?_⟩
 rw [remTop,zm,e3,xu,List.append_assoc]
def spl (a:Slot)(ks l:List Slot):List Slot:=l.flatMap fun k=>if k=a then ks else [k]
theorem spl_none {a:Slot}{ks l:List Slot}(h:a∉l):spl a ks l=l:=by
 induction l with
 | nil=>rfl
 | cons x l ih=>
  simp only [List.mem_cons,not_or] at h;simp only [spl,List.flatMap_cons,if_neg (Ne.symm h.1)] at ih ⊢;rw [ih h.2];rfl
theorem spl_cons_ne {a x:Slot}{ks l:List Slot}(h:x≠a):spl a ks (x :: l)=x :: spl a ks l:=by simp [spl,h]
theorem spl_cons {a:Slot}{ks l:List Slot}:spl a ks (a :: l)=ks++spl a ks l:=by simp [spl]
theorem roots_rem (a:Slot){st:Slot->Option nw}{x:nw}(hx:st a=some x):∀{F:Fo} {p:Slot},F.In st p->F.slots.Nodup->(F.rem a).roots=spl a x.kids F.roots
 | nil,_,_,_=>rfl
 | node s kids next,p,⟨⟨y,h1,h2,h3⟩,h4,h5⟩,hn=>by
  simp only [slots,List.nodup_cons,List.mem_append,not_or,List.nodup_append] at hn;by_cases hs:s=a
  ·subst hs;rw [hx] at h1;cases h1
   simp only [rem,if_true,roots_app,roots,spl_cons];rw [<- h3,spl_none (fun h=>hn.1.2 (roots_sub next s h))]
  ·simp only [rem,if_neg hs,roots,spl_cons_ne hs];rw [roots_rem a hx h5 hn.2.2.1]
theorem In_up {st st':Slot->Option nw}{a q:Slot}:∀{F:Fo} {p:Slot},F.In st p->a∉F.slots->(p=a\/a≠p)->
 (∀s∈F.slots,∀x,st s=some x->∃y,st' s=some y/\y.parent=(if x.parent=a then q else x.parent)/\y.kids=x.kids)->F.In st' (if p=a then q else p)
 | nil,_,_,_,_,_=>trivial
 | node s kids next,p,⟨⟨x,h1,h2,h3⟩,h4,h5⟩,ha,hp,h=>by
  simp only [slots,List.mem_cons,List.mem_append,not_or] at ha h;obtain ⟨y,e1,e2,e3⟩:=h s (.inl rfl) x h1;refine ⟨⟨y,e1,by rw [e2,h2],by rw [e3,h3]⟩,?_,In_up h5 ha.2.2 hp (fun z hz=>h z (.inr (.inr hz)))⟩
  have:=In_up h4 ha.2.1 (.inr ha.1) (fun z hz=>h z (.inr (.inl hz)))
  rwa [if_neg (Ne.symm ha.1)] at this
structure Out (st st':Slot->Option nw)(a:Slot)(x:nw):Prop where
 at_:st a=some x
 no:a∉x.kids
 par:x.parent≠a
 st:∀s,s≠a->s≠nowhere->∀y,st s=some y->∃z,st' s=some z/\z.parent=(if y.parent=a then x.parent else y.parent)/\(s≠x.parent->z.kids=y.kids)
theorem In_rem {st st':Slot->Option nw}{a:Slot}{x:nw}(o:Out st st' a x)(hk:∀y,st x.parent=some y->∃z,st' x.parent=some z/\z.kids=spl a x.kids y.kids):
 ∀{F:Fo} {p:Slot},F.In st p->F.slots.Nodup->p≠a->p∉F.slots->nowhere∉F.slots->(F.rem a).In st' p
 | nil,_,_,_,_,_,_=>trivial
 | node s kids next,p,⟨⟨y,h1,h2,h3⟩,h4,h5⟩,hn,hpa,hpF,hno=>by
  have hn0:=hn;simp only [slots,List.nodup_cons,List.mem_append,not_or,List.nodup_append] at hn;simp only [slots,List.mem_cons,List.mem_append,not_or] at hpF hno;by_cases hs:s=a
  ·subst hs;have:y=x:=by rw [o.at_] at h1;exact (Option.some.inj h1).symm
   subst this;simp only [rem,if_true];have key:∀(G:Fo),s∉G.slots->p∉G.slots->nowhere∉G.slots->∀z∈G.slots,∀u,st z=some u->∃v,st' z=some v/\v.parent=(if u.parent=s then p else u.parent)/\v.kids=u.kids:=by
    intro G hGa hGp hGn z hz u hu;obtain ⟨v,e1,e2,e3⟩:=o.st z (fun e=>hGa (e▸hz)) (fun e=>hGn (e▸hz)) u hu
    exact ⟨v,e1,by rw [e2,h2],e3 (fun e=>hGp (by rw [<- h2,<- e];exact hz))⟩
   refine In_app ?_ ?_
   ·have:=In_up (q:=p) h4 hn.1.1 (.inl rfl) (key kids hn.1.1 hpF.2.1 hno.2.1);rwa [if_pos rfl] at this
   ·have:=In_up (q:=p) h5 hn.1.2 (.inr (Ne.symm hpa)) (key next hn.1.2 hpF.2.2 hno.2.2);rwa [if_neg hpa] at this
  ·simp only [rem,if_neg hs];refine ⟨?_,In_rem o hk h4 hn.2.1 hs hn.1.1 hno.2.1,In_rem o hk h5 hn.2.2.1 hpa hpF.2.2 hno.2.2⟩;obtain ⟨z,e1,e2,e3⟩:=o.st s hs (Ne.symm hno.1) y h1;refine ⟨z,e1,by rw [e2,h2,if_neg hpa],?_⟩;rw [roots_rem a o.at_ h4 hn.2.1];by_cases hsp:s=x.parent
   ·subst hsp;obtain ⟨z',f1,f2⟩:=hk y h1;rw [e1] at f1;cases f1
    rw [f2,h3]
   ·rw [e3 hsp,h3,spl_none];intro hr;obtain ⟨v,f1,f2⟩:=h4.roots a hr;rw [o.at_] at f1;cases f1
    exact hsp f2.symm
theorem In_cut {st:Slot->Option nw}{a:Slot}:∀{F:Fo} {p:Slot},F.In st p->a∈F.roots->(F.cut a).In st p/\(F.sub a).In st a/\∃x,st a=some x/\x.parent=p/\x.kids=(F.sub a).roots
 | nil,_,_,h=>by simp [roots] at h
 | node s kids next,p,⟨⟨y,h1,h2,h3⟩,h4,h5⟩,h=>by
  by_cases hs:s=a
  ·subst hs;simp only [cut,sub,if_true];exact ⟨h5,h4,y,h1,h2,h3⟩
  ·simp only [roots,List.mem_cons] at h;obtain ⟨r1,r2,r3⟩:=In_cut h5 (h.resolve_left (Ne.symm hs));simp only [cut,sub,if_neg hs];exact ⟨⟨⟨y,h1,h2,h3⟩,h4,r1⟩,r2,r3⟩
theorem roots_cut (a:Slot):∀(F:Fo),(F.cut a).roots=F.roots.erase a
 | nil=>rfl
 | node s kids next=>by
  by_cases hs:s=a
  ·subst hs;simp [cut,roots]
  ·simp only [cut,if_neg hs,roots,roots_cut a next];rw [List.erase_cons_tail (by simpa using hs)]
theorem slots_cut (a:Slot):∀(F:Fo),a∈F.roots->F.slots.Perm (a :: ((F.cut a).slots++(F.sub a).slots))
 | nil,h=>by simp [roots] at h
 | node s kids next,h=>by
  by_cases hs:s=a
  ·subst hs;simp only [cut,sub,if_true,slots];exact List.Perm.cons _ (List.perm_append_comm)
  ·simp only [roots,List.mem_cons] at h;have:=slots_cut a next (h.resolve_left (Ne.symm hs));simp only [cut,sub,if_neg hs,slots];refine (List.Perm.cons s (List.Perm.append_left kids.slots this)).trans ?_;have e:(s :: (kids.slots++(next.cut a).slots)++(next.sub a).slots)=s :: (kids.slots++((next.cut a).slots++(next.sub a).slots)):=by simp
   rw [e];refine (List.Perm.cons s List.perm_middle).trans ?_;exact List.Perm.swap _ _ _
end Fo
def aw.less (e:aw):aw:={e with up:=e.up-1}
def d_ (L:List aw)(i:Nat)(up:Int):List aw:=
 if 0<up then L.take i++(((L.take (ie L i up)).drop (i+1)).map aw.less++L.drop (ie L i up))
 else L.take i++(L.drop (ie L i up)++((L.take (ie L i up)).drop (i+1)).map aw.less)
def fm (st:Slot->Option nw)(a:Slot):Slot->Option nw:=
 match st a with
 | none=>st
 | some x=>
  let s1:=upd st a none
  let s2:=match s1 x.parent with
   | none=>s1
   | some y=>upd s1 x.parent (some ⟨y.parent,if x.parent=nowhere then y.kids.erase a++x.kids else Fo.spl a x.kids y.kids⟩)
  f_ s2 x.kids x.parent
theorem bx4 (e:aw):e.less.key=Fo.less e.key:=rfl
theorem a48 {L:List aw}{A B C:List (Slot×Int)}{s:Slot}{u:Int}(h:L.map aw.key=A++(s,u) :: (B++C))(hB:∀x∈B,u<x.2)(hC:∀x∈C.head?,x.2<=u):
 (d_ L A.length u).map aw.key=if 0<u then A++(B.map Fo.less++C) else A++(C++B.map Fo.less):=by
 have hm:(fun e:aw=>e.less.key)=fun e=>Fo.less e.key:=by funext e;exact bx4 e
 have e0:(L.take A.length).map aw.key=A:=by rw [List.map_take,h];simp
 have e2:A.length+1+B.length=(A++(s,u) :: B).length:=by simp;omega
 have e1:A++(s,u) :: (B++C)=(A++(s,u) :: B)++C:=by simp
 have e3:(L.drop (A.length+1+B.length)).map aw.key=C:=by
  rw [List.map_drop,h,e1,e2,List.drop_left]
 have e4:(((L.take (A.length+1+B.length)).drop (A.length+1)).map aw.less).map aw.key=B.map Fo.less:=by
  rw [List.map_map,show (aw.key ∘ aw.less)=Fo.less ∘ aw.key from hm,<- List.map_map,List.map_drop,List.map_take,h,e1,e2,List.take_left];congr 1;have e5:A++(s,u) :: B=(A++[(s,u)])++B:=by simp
  have e6:A.length+1=(A++[(s,u)]).length:=by simp
  rw [e5,e6,List.drop_left]
 unfold d_;rw [bd3 h hB hC];split
 ·rw [List.map_append,List.map_append,e0,e3,e4]
 ·rw [List.map_append,List.map_append,e0,e3,e4]
theorem ii.take {L:List aw}{st:Slot->Option nw}{F:Fo}(h:ii L st F){p:Nat}(hp:p<L.length):
 ∃F',ii (d_ L p L[p].up) (fm st L[p].slot) F'/\F.slots.Perm (L[p].slot :: F'.slots)/\(∃x,Fo.Out st (fm st L[p].slot) L[p].slot x)/\
  ∀s z,fm st L[p].slot s=some z->s≠L[p].slot/\(s∈F.slots\/s=nowhere):=by
 have hmem:L[p].slot∈F.slots:=by rw [h.slots];exact List.mem_map.2 ⟨_,List.getElem_mem hp,rfl⟩
 generalize ha:L[p].slot=a at *
 obtain ⟨x,hx,x1,x2,x3,x4,x5⟩:=h.stands.fact h.nodup a hmem;obtain ⟨rt,hr1,hr2⟩:=h.roots;have han:a≠nowhere:=fun e=>h.top (e▸hmem)
 have hpa:x.parent≠a:=by
  rcases x5 with ⟨e,_⟩ | ⟨_,y,e2,e3,_⟩
  ·rw [e];exact Ne.symm han
  ·intro e;rw [e,hx] at e2;cases e2;exact x1 e3
 obtain ⟨y,hy,hy2,hy3⟩:∃y,st x.parent=some y/\a∈y.kids/\(x.parent=nowhere->y=rt/\a∈F.roots):=by
  rcases x5 with ⟨e,e2⟩ | ⟨e0,y,e2,e3,_⟩
  ·exact ⟨rt,by rw [e];exact hr1,by rw [hr2];exact e2,fun _=>⟨rfl,e2⟩⟩
  ·exact ⟨y,e2,e3,fun e=>absurd (e▸e0) h.top⟩
 have hpk:x.parent∉x.kids:=by
  intro e;obtain ⟨_,z,e2,e3⟩:=x4 _ e;rw [hy] at e2;cases e2
  -- the parent's parent is a,whose parent it is
  obtain ⟨A,B,C,u,f1,_⟩:=Fo.flat_rem a F 0 h.nodup hmem;have hpF:x.parent∈F.slots:=(x4 _ e).1;obtain ⟨y',r1,r2⟩:=h.stands.parent f1;rw [hx] at r1;cases r1
  rcases r2 with ⟨_,r2⟩ | ⟨A1,q,A2,e4,e5,e6⟩
  ·exact h.top (r2▸hpF)
  ·subst e6;have f2:F.flat 0=A1++(x.parent,u-1) :: (A2++(a,u) :: (B++C)):=by rw [f1,e4];simp
   obtain ⟨y'',r3,r4⟩:=h.stands.parent f2;rw [hy] at r3;cases r3
   rcases r4 with ⟨_,r4⟩ | ⟨A3,q',A4,e7,e8,e9⟩
   ·exact han (e3▸r4)
   ·rw [e3] at e9;subst e9;have hnd:=h.nodup;rw [<- Fo.flat_slots F 0,f2,e7] at hnd;simp [List.nodup_append,List.nodup_cons] at hnd
 have hmv:fm st a=f_ (upd (upd st a none) x.parent (some ⟨y.parent,if x.parent=nowhere then y.kids.erase a++x.kids else Fo.spl a x.kids y.kids⟩)) x.kids x.parent:=by
  unfold fm;rw [hx];simp only [ae _ _ hpa,hy]
 have hsta:fm st a a=none:=by
  rw [hmv];unfold f_;rw [if_neg x1,ae _ _ (Ne.symm hpa),ai]
 have hkp:∀s,s≠a->s≠nowhere->∀z,st s=some z->(z.parent=a ↔ s∈x.kids):=by
  intro s h1 h2 z hz;constructor
  ·intro e;rcases h.only s z hz with e0 | e0
   ·obtain ⟨z',e1,_,_,_,_,e5⟩:=h.stands.fact h.nodup s e0;rw [hz] at e1;cases e1
    rcases e5 with ⟨e6,_⟩ | ⟨_,y2,e6,e7,_⟩
    ·exact absurd (e▸e6) han
    ·rw [e,hx] at e6;cases e6;exact e7
   ·exact absurd e0 h2
  ·intro e;obtain ⟨_,z2,e6,e7⟩:=x4 s e;rw [hz] at e6;cases e6
   exact e7
 have hnk:nowhere∉x.kids:=fun e=>h.top (x4 _ e).1
 have hstp:fm st a x.parent=some ⟨y.parent,if x.parent=nowhere then y.kids.erase a++x.kids else Fo.spl a x.kids y.kids⟩:=by
  rw [hmv];unfold f_;rw [if_neg hpk,ai]
 have hsto:∀s,s≠a->s≠x.parent->∀z,st s=some z->fm st a s=some ⟨if s∈x.kids then x.parent else z.parent,z.kids⟩:=by
  intro s h1 h2 z hz;rw [hmv];unfold f_;rw [ae _ _ h2,ae _ _ h1,hz];by_cases h4:s∈x.kids<;>simp [h4]
 have hout:Fo.Out st (fm st a) a x:=by
  refine ⟨hx,x1,hpa,fun s h1 h2 z hz=>?_⟩
  by_cases h3:s=x.parent
  ·subst h3;refine ⟨_,hstp,?_,fun e=>absurd rfl e⟩
   rw [hy] at hz;cases hz
   rw [if_neg (fun e=>hpk ((hkp _ h1 h2 _ hy).1 e))]
  ·refine ⟨_,hsto s h1 h3 z hz,?_,fun _=>rfl⟩
   by_cases h4:s∈x.kids
   ·simp only [if_pos h4,if_pos ((hkp s h1 h2 z hz).2 h4)]
   ·simp only [if_neg h4,if_neg (fun e=>h4 ((hkp s h1 h2 z hz).1 e))]
 have honly:∀s z,fm st a s=some z->s≠a/\(s∈F.slots\/s=nowhere):=by
  intro s z hz;have h1:s≠a:=fun e=>by rw [e,hsta] at hz;cases hz
  refine ⟨h1,?_⟩;by_cases h4:s=x.parent
  ·rw [h4];rcases x5 with ⟨e,_⟩ | ⟨e,_⟩
   ·exact .inr e
   ·exact .inl e
  ·rw [hmv] at hz;unfold f_ at hz;rw [ae _ _ h4,ae _ _ h1] at hz;cases hst:st s with
   | none=>rw [hst] at hz;split at hz<;>simp at hz
   | some z'=>exact h.only s z' hst
 -- the two cases
 by_cases htop:x.parent=nowhere
 ·obtain ⟨hyr,hroot⟩:=hy3 htop;subst hyr;obtain ⟨A,B,C,f1,f2,f3,f4⟩:=Fo.flat_remTop a F 0 hroot;rw [<- h.flat] at f1;obtain ⟨r1,r2⟩:=ab8 h.nd f1 hp ha;obtain ⟨c1,c2,x',c3,c4,c5⟩:=Fo.In_cut h.stands hroot;rw [hx] at c3;cases c3
  have hperm:F.slots.Perm (a :: (F.remTop a).slots):=by
   rw [Fo.remTop,Fo.slots_app];exact Fo.slots_cut a F hroot
  have hnd':(a :: (F.remTop a).slots).Nodup:=hperm.nodup_iff.1 h.nodup;rw [List.nodup_cons] at hnd';have hnot:nowhere∉(F.remTop a).slots:=fun e=>h.top (hperm.mem_iff.2 (List.mem_cons_of_mem _ e))
  have hsub:∀(G:Fo),(∀z∈G.slots,z∈(F.remTop a).slots)->∀z∈G.slots,∀u,st z=some u->∃v,fm st a z=some v/\v.parent=(if u.parent=a then nowhere else u.parent)/\v.kids=u.kids:=by
   intro G hG z hz u hu;have hza:z≠a:=fun e=>hnd'.1 (e▸hG z hz)
   have hzn:z≠nowhere:=fun e=>hnot (e▸hG z hz)
   obtain ⟨v,e1,e2,e3⟩:=hout.st z hza hzn u hu;exact ⟨v,e1,by rw [e2,htop],e3 (by rw [htop];exact hzn)⟩
  refine ⟨F.remTop a,⟨hnd'.2,hnot,?_,?_,?_,?_⟩,hperm,⟨x,hout⟩,honly⟩
  ·rw [r2,f4,<- r1,a48 f1 f2 f3];simp
  ·refine Fo.In_app ?_ ?_
   ·have:=Fo.In_up (st':=fm st a) (a:=a) (q:=nowhere) c1 (fun e=>hnd'.1 (by rw [Fo.remTop,Fo.slots_app];exact List.mem_append_left _ e)) (.inr han) (hsub _ (fun z hz=>by rw [Fo.remTop,Fo.slots_app];exact List.mem_append_left _ hz))
    rwa [if_neg (Ne.symm han)] at this
   ·have:=Fo.In_up (st':=fm st a) (a:=a) (q:=nowhere) c2 (fun e=>hnd'.1 (by rw [Fo.remTop,Fo.slots_app];exact List.mem_append_right _ e)) (.inl rfl) (hsub _ (fun z hz=>by rw [Fo.remTop,Fo.slots_app];exact List.mem_append_right _ hz))
    rwa [if_pos rfl] at this
  ·refine ⟨_,by rw [<- htop];exact hstp,?_⟩;simp only [if_pos htop];rw [Fo.remTop,Fo.roots_app,Fo.roots_cut,hr2,c5]
  ·intro s z hz;obtain ⟨h1,h2⟩:=honly s z hz;rcases h2 with h2 | h2
   ·rcases List.mem_cons.1 (hperm.mem_iff.1 h2) with h3 | h3
    ·exact absurd h3 h1
    ·exact .inl h3
   ·exact .inr h2
 ·obtain ⟨A,B,C,u,f1,f2,f3,f0,f4⟩:=Fo.flat_rem a F 0 h.nodup hmem;have hfl:=f1;rw [<- h.flat] at f1;obtain ⟨r1,r2⟩:=ab8 h.nd f1 hp ha;have hu:0<u:=by
   obtain ⟨x',g1,g2⟩:=h.stands.parent hfl;rw [hx] at g1;cases g1
   rcases g2 with ⟨_,g2⟩ | ⟨A1,q,A2,e4,e5,e6⟩
   ·exact absurd g2 htop
   ·have:=Fo.flat_ge F 0 (q,u-1) (by rw [hfl,e4];simp);simp at this;omega
  have hperm:F.slots.Perm (a :: (F.rem a).slots):=by
   rw [<- Fo.flat_slots F 0,<- Fo.flat_slots (F.rem a) 0,hfl,f4];have e:B.map Fo.less++C=B.map Fo.less++C:=rfl;simp only [List.map_append,List.map_cons,List.map_map];rw [show (Prod.fst ∘ Fo.less:Slot×Int->Slot)=Prod.fst from rfl];exact List.perm_middle
  have hnd':(a :: (F.rem a).slots).Nodup:=hperm.nodup_iff.1 h.nodup;rw [List.nodup_cons] at hnd';have hnot:nowhere∉(F.rem a).slots:=fun e=>h.top (hperm.mem_iff.2 (List.mem_cons_of_mem _ e))
  refine ⟨F.rem a,⟨hnd'.2,hnot,?_,?_,?_,?_⟩,hperm,⟨x,hout⟩,honly⟩
  ·rw [r2,f4,<- r1,a48 f1 f2 f3,if_pos hu]
  ·refine Fo.In_rem hout (fun y' hy'=>?_) h.stands h.nodup (Ne.symm han) h.top h.top;rw [hy] at hy';cases hy'
   exact ⟨_,hstp,by simp only [if_neg htop]⟩
  ·refine ⟨_,hsto nowhere (Ne.symm han) (fun e=>htop e.symm) rt hr1,?_⟩;rw [Fo.roots_rem a hx h.stands h.nodup,hr2,Fo.spl_none];intro e;obtain ⟨z,e1,e2⟩:=h.stands.roots a e;rw [hx] at e1;cases e1
   exact htop e2
  ·intro s z hz;obtain ⟨h1,h2⟩:=honly s z hz;rcases h2 with h2 | h2
   ·rcases List.mem_cons.1 (hperm.mem_iff.1 h2) with h3 | h3
    ·exact absurd h3 h1
    ·exact .inl h3
   ·exact .inr h2
theorem bn1 {L:List aw}{p:Nat}(hp:p<L.length){y:aw}(hy:y∈d_ L p L[p].up):∃e∈L,y=e\/y=e.less:=by
 unfold d_ at hy;have:y∈L.take p\/y∈((L.take (ie L p L[p].up)).drop (p+1)).map aw.less\/y∈L.drop (ie L p L[p].up):=by
  split at hy
  ·simpa [List.mem_append] using hy
  ·simp only [List.mem_append] at hy;rcases hy with h | h | h
   ·exact .inl h
   ·exact .inr (.inr h)
   ·exact .inr (.inl h)
 rcases this with h | h | h
 ·exact ⟨y,List.mem_of_mem_take h,.inl rfl⟩
 ·obtain ⟨e,he,rfl⟩:=List.mem_map.1 h;exact ⟨e,List.mem_of_mem_take (List.mem_of_mem_drop he),.inr rfl⟩
 ·exact ⟨y,List.mem_of_mem_drop h,.inl rfl⟩
theorem as0 {L:List aw}{p:Nat}(hp:p<L.length):(d_ L p L[p].up).length+1=L.length:=by
 have h1:=av7 L p L[p].up;have h2:=ac_ L p L[p].up hp;unfold d_;split<;>simp<;>omega
theorem yi.take {R:dq}{K:a_}(h:yi R K){p:Nat}(hp:p<R.L.length):
 yi {R with L:=d_ R.L p R.L[p].up} {K with held:=upd K.held R.L[p].slot none,st:=fm K.st R.L[p].slot}:=by
 obtain ⟨F,hF⟩:=h.tree;obtain ⟨F',hF',hperm,_⟩:=hF.take hp;have hs':F'.slots=(d_ R.L p R.L[p].up).map aw.slot:=hF'.slots;have hnd:(R.L[p].slot :: F'.slots).Nodup:=hperm.nodup_iff.1 hF.nodup;rw [List.nodup_cons] at hnd;refine ⟨?_,?_,⟨F',hF'⟩,h.nodes,h.thr⟩
 ·intro y hy;obtain ⟨e,he,hye⟩:=bn1 hp hy;obtain ⟨c,e1,e2⟩:=h.cap e he;have hys:y.slot=e.slot:=by rcases hye with rfl | rfl<;>rfl
  have hne:y.slot≠R.L[p].slot:=fun e3=>hnd.1 (by rw [hs',<- e3];exact List.mem_map.2 ⟨y,hy,rfl⟩)
  refine ⟨c,?_,?_⟩
  ·show upd K.held _ none y.slot=_;rw [ae _ _ hne,hys];exact e1
  ·rw [e2];rcases hye with rfl | rfl<;>rfl
 ·intro s hs;show upd K.held _ none s=none;by_cases e:s=R.L[p].slot
  ·rw [e,ai]
  ·rw [ae _ _ e];refine h.emp s (fun y hy e2=>?_);have h1:s∈F.slots:=by rw [hF.slots,<- e2];exact List.mem_map.2 ⟨y,hy,rfl⟩
   rcases List.mem_cons.1 (hperm.mem_iff.1 h1) with h3 | h3
   ·exact e h3
   ·rw [hs'] at h3;obtain ⟨z,hz,e3⟩:=List.mem_map.1 h3;exact hs z hz e3
theorem pf {st:Slot->Option nw}{t p s:Slot}(h1:s≠p)(h2:s≠t):addS st t p s=st s:=by
 simp only [addS];rw [ae _ _ h1,ae _ _ h2]
def KCap.base:KCap->Int
 | .untyped b _ _=>b
 | .node b _ _=>b
 | .endpoint b _ _ _=>b
 | .task b _ _=>b
 | .frame b _ _=>b
def KCap.bits:KCap->Int
 | .untyped _ n _=>n
 | .node _ n _=>n
 | .endpoint _ n _ _=>n
 | .task _ n _=>n
 | .frame _ n _=>n
def KCap.mark:KCap->Int
 | .untyped _ _ m=>m
 | _=>0
def KCap.badge:KCap->Int
 | .endpoint _ _ _ g=>g
 | _=>0
theorem pa {c:KCap}{e:aw}(h:c.told=e.told):c.base=e.base/\c.bits=e.bits/\c.mark=e.mark:=by
 cases c<;>simp only [KCap.told,aw.told,Prod.mk.injEq] at h<;>obtain ⟨_,h1,h2,_,_,h3⟩:=h<;>exact ⟨h1,h2,h3⟩
inductive Up (st:Slot->Option nw) (s:Slot):Slot->Prop
 | one {t:Slot} {x:nw}:t≠nowhere->st t=some x->x.parent=s->Up st s t
 | more {t:Slot} {x:nw}:t≠nowhere->st t=some x->Up st s x.parent->Up st s t
theorem Up.ne {st:Slot->Option nw}{s t:Slot}(h:Up st s t):t≠nowhere:=by cases h<;>assumption
theorem Up.mono {st st':Slot->Option nw}(hs:∀t x,t≠nowhere->st t=some x->∃y,st' t=some y/\y.parent=x.parent){s t:Slot}(h:Up st s t):Up st' s t:=by
 induction h with
 | one h1 h2 h3=>obtain ⟨y,e1,e2⟩:=hs _ _ h1 h2;exact .one h1 e1 (e2.trans h3)
 | more h1 h2 _ ih=>obtain ⟨y,e1,e2⟩:=hs _ _ h1 h2;exact .more h1 e1 (by rw [e2];exact ih)
theorem Up.last {st:Slot->Option nw}{s t:Slot}(h:Up st s t):∃u x,u≠nowhere/\st u=some x/\x.parent=s:=by
 induction h with
 | one h1 h2 h3=>exact ⟨_,_,h1,h2,h3⟩
 | more _ _ _ ih=>exact ih
def KCap.ty:KCap->Int
 | .untyped _ _ _=>1
 | .node _ _ _=>2
 | .endpoint _ _ _ _=>3
 | .task _ _ _=>4
 | .frame _ _ _=>5
theorem qp {c:KCap}{e:aw}(h:c.told=e.told):c.ty=e.ty:=by
 cases c<;>simp only [KCap.told,aw.told,Prod.mk.injEq] at h<;>exact h.1
theorem bw2 {c:KCap}:c.isU=true ↔ c.ty=1:=by cases c<;>simp [KCap.isU,KCap.ty]
def jz (c d:KCap):Prop:=c.isU=false/\c.ty=d.ty/\c.base=d.base/\c.bits=d.bits
theorem jz.symm {c d:KCap}(h:jz c d):jz d c:=by
 obtain ⟨h1,h2,h3,h4⟩:=h;refine ⟨?_,h2.symm,h3.symm,h4.symm⟩;cases hd:d.isU with
 | false=>rfl
 | true=>rw [bw2.1 hd] at h2;rw [bw2.2 h2] at h1;cases h1
theorem jz.trans {c d e:KCap}(h:jz c d)(h':jz d e):jz c e:=⟨h.1,h.2.1.trans h'.2.1,h.2.2.1.trans h'.2.2.1,h.2.2.2.trans h'.2.2.2⟩
theorem jz.isU {c d:KCap}(h:jz c d):d.isU=false:=h.symm.1
def ah9 (c d:KCap):Prop:=c.base+pw c.bits.toNat<=d.base\/d.base+pw d.bits.toNat<=c.base
theorem ah9.symm {c d:KCap}(h:ah9 c d):ah9 d c:=Or.symm h
theorem ah9.same {c d e:KCap}(h:ah9 c d)(hs:jz d e):ah9 c e:=by
 unfold ah9 at *;rw [<- hs.2.2.1,<- hs.2.2.2];exact h
def rz (d c:KCap):Prop:=
 match d with
 | .untyped b _ m=>b<=c.base/\c.base+pw c.bits.toNat<=b+m
 | _=>jz d c/\(d.badge=0\/c.badge=d.badge)
theorem al9 {d c:KCap}(hd:d.isU=false):rz d c ↔ jz d c/\(d.badge=0\/c.badge=d.badge):=by
 cases d<;>first | (simp [KCap.isU] at hd;done) | exact Iff.rfl
def bz7 (st:Slot->Option nw)(s t:Slot)(c d:KCap):Prop:=ah9 c d\/jz c d\/(c.isU=true/\Up st s t)\/(d.isU=true/\Up st t s)
theorem bz7.symm {st:Slot->Option nw}{s t:Slot}{c d:KCap}(h:bz7 st s t c d):bz7 st t s d c:=by
 rcases h with h | h | h | h
 ·exact .inl h.symm
 ·exact .inr (.inl h.symm)
 ·exact .inr (.inr (.inr h))
 ·exact .inr (.inr (.inl h))
structure Geo (H:Slot->Option KCap)(st:Slot->Option nw):Prop where
 within:∀t x c d,t≠nowhere->st t=some x->H t=some c->H x.parent=some d->rz d c
 apart:∀s t c d,s≠t->H s=some c->H t=some d->bz7 st s t c d
theorem Geo.below {H:Slot->Option KCap}{st:Slot->Option nw}(h:Geo H st)(hp:∀t x,t≠nowhere->st t=some x->x.parent≠nowhere->∃d,H x.parent=some d)
 (hm:∀s c,H s=some c->c.mark<=pw c.bits.toNat) {s t:Slot} {b n m:Int} (hs:H s=some (.untyped b n m)) (hu:Up st s t):∀c,H t=some c->b<=c.base/\c.base+pw c.bits.toNat<=b+m:=by
 induction hu with
 | one h1 h2 h3=>
  intro c hc;have:=h.within _ _ c _ h1 h2 hc (by rw [h3];exact hs);exact this
 | more h1 h2 h3 ih=>
  intro c hc;obtain ⟨d,hd⟩:=hp _ _ h1 h2 h3.ne;obtain ⟨i1,i2⟩:=ih d hd;have hw:=h.within _ _ c d h1 h2 hc hd;have hmk:=hm _ d hd;cases d with
  | untyped b' n' m'=>
   simp only [rz,KCap.base,KCap.bits,KCap.mark] at *
   omega
  | _=>
   obtain ⟨_,_,e1,e2⟩:=(hw:jz _ c/\_).1;rw [<- e1,<- e2];exact ⟨i1,i2⟩
theorem Geo.lay {H:Slot->Option KCap}{st:Slot->Option nw}(h:Geo H st){t p:Slot}{c d:KCap}(htn:t≠nowhere)(htp:t≠p)(ht:H t=none)(hst:∀s x,st s=some x->(s≠nowhere->x.parent≠t)/\s≠t)(hpx:∃x,st p=some x)
 (hd:H p=some d) (hw:rz d c) (ha:∀s e,s≠p->H s=some e->ah9 c e\/jz c e\/(e.isU=true/\Up st s p)) (hp:jz d c\/d.isU=true) :
 Geo (upd H t (some c)) (addS st t p):=by
 have hold:∀s x,st s=some x->∃y,addS st t p s=some y/\y.parent=x.parent:=by
  intro s x hx;by_cases e:s=p
  ·subst e;refine ⟨_,by simp only [addS];rw [ai],?_⟩;rw [ae _ _ (Ne.symm htp),hx];rfl
  ·exact ⟨x,by rw [pf e (hst s x hx).2];exact hx,rfl⟩
 have hnew:addS st t p t=some ⟨p,[]⟩:=by simp only [addS];rw [ae _ _ htp,ai]
 have hback:∀s y,s≠t->addS st t p s=some y->∃x,st s=some x/\x.parent=y.parent:=by
  intro s y hs hy;by_cases e:s=p
  ·obtain ⟨x,hx⟩:=hpx;obtain ⟨z,e1,e2⟩:=hold p x hx;rw [e,e1] at hy;cases hy
   exact ⟨x,by rw [e];exact hx,e2.symm⟩
  ·rw [pf e hs] at hy;exact ⟨y,hy,rfl⟩
 have hmono:∀{a b:Slot},Up st a b->Up (addS st t p) a b:=fun hu=>hu.mono (fun s x _ hx=>hold s x hx)
 have hpt:Up (addS st t p) p t:=.one htn hnew rfl;have hup:∀{a:Slot},Up st a p->Up (addS st t p) a t:=fun hu=>.more htn hnew (hmono hu)
 have key:∀s e,s≠t->H s=some e->bz7 (addS st t p) t s c e:=by
  intro s e hs he;by_cases e1:s=p
  ·subst e1;rw [hd] at he;cases he
   rcases hp with h1 | h1
   ·exact .inr (.inl h1.symm)
   ·exact .inr (.inr (.inr ⟨h1,hpt⟩))
  ·rcases ha s e e1 he with h1 | h1 | ⟨h1,h2⟩
   ·exact .inl h1
   ·exact .inr (.inl h1)
   ·exact .inr (.inr (.inr ⟨h1,hup h2⟩))
 refine ⟨?_,?_⟩
 ·intro s y c' d' hsn hy hc' hd';by_cases e:s=t
  ·subst e;rw [hnew] at hy;cases hy
   rw [ai] at hc';cases hc'
   rw [ae _ _ (Ne.symm htp)] at hd';have hd2:H p=some d':=hd';rw [hd] at hd2;cases hd2
   exact hw
  ·obtain ⟨x,hx,hxp⟩:=hback s y e hy;rw [ae _ _ e] at hc';rw [<- hxp,ae _ _ ((hst s x hx).1 hsn)] at hd';exact h.within s x c' d' hsn hx hc' hd'
 ·intro s s' c1 c2 hss h1 h2;by_cases e:s=t
  ·subst e;rw [ai] at h1;cases h1
   rw [ae _ _ (Ne.symm hss)] at h2;exact key s' c2 (Ne.symm hss) h2
  ·rw [ae _ _ e] at h1;by_cases e':s'=t
   ·subst e';rw [ai] at h2;cases h2
    exact (key s c1 e h1).symm
   ·rw [ae _ _ e'] at h2;rcases h.apart s s' c1 c2 hss h1 h2 with g | g | ⟨g1,g2⟩ | ⟨g1,g2⟩
    ·exact .inl g
    ·exact .inr (.inl g)
    ·exact .inr (.inr (.inl ⟨g1,hmono g2⟩))
    ·exact .inr (.inr (.inr ⟨g1,hmono g2⟩))
theorem Geo.mark {H:Slot->Option KCap}{st:Slot->Option nw}(h:Geo H st){f:Slot}{b n m m':Int}(hf:H f=some (.untyped b n m))(hk:m<=m'\/∀t x,t≠nowhere->st t=some x->x.parent≠f):
 Geo (upd H f (some (.untyped b n m'))) st:=by
 have hold:∀s c',upd H f (some (.untyped b n m')) s=some c'->(s=f/\c'=.untyped b n m')\/(s≠f/\H s=some c'):=by
  intro s c' h1;by_cases e:s=f
  ·rw [e,ai] at h1;exact .inl ⟨e,(Option.some.inj h1).symm⟩
  ·rw [ae _ _ e] at h1;exact .inr ⟨e,h1⟩
 refine ⟨?_,?_⟩
 ·intro t x c d htn hx hc hd;have hw:∀c0,H t=some c0->c0.base=c.base->c0.bits=c.bits->c0.ty=c.ty->c0.badge=c.badge->rz d c:=by
   intro c0 h0 e1 e2 e3 e4;rcases hold _ _ hd with ⟨g1,rfl⟩ | ⟨g1,g2⟩
   ·rcases hk with hk | hk
    ·have:=h.within t x c0 _ htn hx h0 (by rw [g1];exact hf);simp only [rz] at this ⊢;rw [<- e1,<- e2];omega
    ·exact absurd g1 (hk t x htn hx)
   ·have:=h.within t x c0 d htn hx h0 g2;cases d with
    | untyped b' n' m''=>simp only [rz] at this ⊢;rw [<- e1,<- e2];exact this
    | _=>obtain ⟨⟨q1,q2,q3,q4⟩,q5⟩:=(this:jz _ c0/\_);exact ⟨⟨q1,q2.trans e3,q3.trans e1,q4.trans e2⟩,q5.imp id (fun e=>e4.symm.trans e)⟩
  rcases hold _ _ hc with ⟨g1,rfl⟩ | ⟨g1,g2⟩
  ·exact hw (.untyped b n m) (by rw [g1];exact hf) rfl rfl rfl rfl
  ·exact hw c g2 rfl rfl rfl rfl
 ·intro s t c d hst hc hd;rcases hold _ _ hc with ⟨g1,rfl⟩ | ⟨g1,g2⟩
  ·rcases hold _ _ hd with ⟨k1,rfl⟩ | ⟨k1,k2⟩
   ·exact absurd (g1.trans k1.symm) hst
   ·exact h.apart s t (.untyped b n m) d hst (by rw [g1];exact hf) k2
  ·rcases hold _ _ hd with ⟨k1,rfl⟩ | ⟨k1,k2⟩
   ·exact h.apart s t c (.untyped b n m) hst g2 (by rw [k1];exact hf)
   ·exact h.apart s t c d hst g2 k2
theorem Geo.take {H:Slot->Option KCap}{st st':Slot->Option nw}(h:Geo H st){a:Slot}{x:nw}{ca:KCap}(ha:H a=some ca)(han:a≠nowhere)(o:Fo.Out st st' a x)
 (hb:∀t y,t≠nowhere->st' t=some y->t≠a/\∃z,st t=some z) (hm:ca.mark<=pw ca.bits.toNat) :
 Geo (upd H a none) st':=by
 have hold:∀s c',upd H a none s=some c'->s≠a/\H s=some c':=by
  intro s c' h1;by_cases e:s=a
  ·rw [e,ai] at h1;cases h1
  ·rw [ae _ _ e] at h1;exact ⟨e,h1⟩
 have hup:∀{s t:Slot},Up st s t->s≠a->(t=a->x.parent=s\/Up st' s x.parent)/\(t≠a->Up st' s t):=by
  intro s t hu hs;induction hu with
  | @one t y h1 h2 h3=>
   refine ⟨fun e=>?_,fun e=>?_⟩
   ·subst e;rw [o.at_] at h2;cases h2;exact .inl h3
   ·obtain ⟨z,e1,e2,_⟩:=o.st t e h1 y h2;exact .one h1 e1 (by rw [e2,h3,if_neg hs])
  | @more t y h1 h2 h3 ih=>
   refine ⟨fun e=>?_,fun e=>?_⟩
   ·subst e;rw [o.at_] at h2;cases h2;exact .inr (ih.2 o.par)
   ·obtain ⟨z,e1,e2,_⟩:=o.st t e h1 y h2;by_cases e3:y.parent=a
    ·rcases ih.1 e3 with h4 | h4
     ·exact .one h1 e1 (by rw [e2,if_pos e3,h4])
     ·exact .more h1 e1 (by rw [e2,if_pos e3];exact h4)
    ·exact .more h1 e1 (by rw [e2,if_neg e3];exact ih.2 e3)
 refine ⟨?_,?_⟩
 ·intro t y c d htn hy hc hd;obtain ⟨hta,z,hz⟩:=hb t y htn hy;obtain ⟨_,hc'⟩:=hold _ _ hc;obtain ⟨_,hd'⟩:=hold _ _ hd;obtain ⟨y',e1,e2,_⟩:=o.st t hta htn z hz;rw [hy] at e1;cases e1
  by_cases e3:z.parent=a
  ·rw [if_pos e3] at e2;rw [e2] at hd';have w1:=h.within t z c ca htn hz hc' (by rw [e3];exact ha);have w2:=h.within a x ca d han o.at_ ha hd';cases d with
   | untyped b n m=>
    simp only [rz] at w2 ⊢;cases ca with
    | untyped b' n' m'=>simp only [rz,KCap.base,KCap.bits,KCap.mark] at *;omega
    | _=>obtain ⟨q1,q2,q3,q4⟩:=(w1:jz _ c/\_).1;rw [<- q3,<- q4];exact w2
   | _=>
    obtain ⟨w2',w3⟩:=(w2:jz _ ca/\_);have hcu:=w2'.isU;obtain ⟨w1',w4⟩:=(al9 hcu).1 w1;refine ⟨(w2'.trans w1':jz _ c),?_⟩;rcases w3 with w3 | w3
    ·exact .inl w3
    ·rcases w4 with w4 | w4
     ·exact .inl (w3.symm.trans w4)
     ·exact .inr (w4.trans w3)
  ·rw [if_neg e3] at e2;rw [e2] at hd';exact h.within t z c d htn hz hc' hd'
 ·intro s t c d hst hc hd;obtain ⟨hsa,hc'⟩:=hold _ _ hc;obtain ⟨hta,hd'⟩:=hold _ _ hd;rcases h.apart s t c d hst hc' hd' with g | g | ⟨g1,g2⟩ | ⟨g1,g2⟩
  ·exact .inl g
  ·exact .inr (.inl g)
  ·exact .inr (.inr (.inl ⟨g1,(hup g2 hsa).2 hta⟩))
  ·exact .inr (.inr (.inr ⟨g1,(hup g2 hta).2 hsa⟩))
theorem Geo.move {H:Slot->Option KCap}{st st':Slot->Option nw}(h:Geo H st){a b:Slot}{c:KCap}(hc:H a=some c)(hb:H b=none)(hbn:b≠nowhere)
 (hs:∀t x,t≠nowhere->st t=some x->∃y,st' (if t=a then b else t)=some y/\y.parent=(if x.parent=a then b else x.parent))
 (hs2:∀t y,t≠nowhere->st' t=some y->t≠a/\∃t0 x,t=(if t0=a then b else t0)/\t0≠nowhere/\t0≠b/\st t0=some x)
 (hpb:∀t x,t≠nowhere->st t=some x->x.parent≠b) :
 Geo (upd (upd H a none) b (some c)) st':=by
 have hold:∀s c',upd (upd H a none) b (some c) s=some c'->∃s0,s=(if s0=a then b else s0)/\H s0=some c':=by
  intro s c' h1;by_cases e:s=b
  ·rw [e,ai] at h1;cases h1
   exact ⟨a,by rw [if_pos rfl];exact e,hc⟩
  ·rw [ae _ _ e] at h1;by_cases e2:s=a
   ·rw [e2,ai] at h1;cases h1
   ·rw [ae _ _ e2] at h1;exact ⟨s,by rw [if_neg e2],h1⟩
 have hinj:∀{u v:Slot},u≠b->v≠b->(if u=a then b else u)=(if v=a then b else v)->u=v:=by
  intro u v hu hv e;by_cases e1:u=a<;>by_cases e2:v=a<;>simp only [e1,e2,if_true,if_false] at e
  ·rw [e1,e2]
  ·exact absurd e.symm hv
  ·exact absurd e hu
  ·exact e
 have hne:∀{t:Slot},t≠nowhere->(if t=a then b else t)≠nowhere:=by
  intro t ht;by_cases e:t=a
  ·rw [if_pos e];exact hbn
  ·rw [if_neg e];exact ht
 have hup:∀{s t:Slot},Up st s t->Up st' (if s=a then b else s) (if t=a then b else t):=by
  intro s t hu;induction hu with
  | @one t y h1 h2 h3=>
   obtain ⟨z,e1,e2⟩:=hs t y h1 h2;exact .one (hne h1) e1 (by rw [e2,h3])
  | @more t y h1 h2 h3 ih=>
   obtain ⟨z,e1,e2⟩:=hs t y h1 h2;exact .more (hne h1) e1 (by rw [e2];exact ih)
 have hnb:∀{s0:Slot} {c':KCap},H s0=some c'->s0≠b:=fun h1 e=>by rw [e,hb] at h1;cases h1
 refine ⟨?_,?_⟩
 ·intro t y c1 d1 htn hy h1 h2;obtain ⟨hta,t0,x,e1,e2,e3,e4⟩:=hs2 t y htn hy;obtain ⟨z,f1,f2⟩:=hs t0 x e2 e4;rw [<- e1,hy] at f1;cases f1
  obtain ⟨s0,g1,g2⟩:=hold _ _ h1;obtain ⟨p0,k1,k2⟩:=hold _ _ h2;have:t0=s0:=hinj e3 (hnb g2) (by rw [<- e1,<- g1]);subst this;have:x.parent=p0:=hinj (hpb t0 x e2 e4) (hnb k2) (by rw [<- f2,<- k1]);subst this;exact h.within _ x c1 d1 e2 e4 g2 k2
 ·intro s t c1 d1 hst h1 h2;obtain ⟨s0,g1,g2⟩:=hold _ _ h1;obtain ⟨t0,k1,k2⟩:=hold _ _ h2;have hst0:s0≠t0:=fun e=>hst (by rw [g1,k1,e])
  rw [g1,k1];rcases h.apart s0 t0 c1 d1 hst0 g2 k2 with g | g | ⟨q1,q2⟩ | ⟨q1,q2⟩
  ·exact .inl g
  ·exact .inr (.inl g)
  ·exact .inr (.inr (.inl ⟨q1,hup q2⟩))
  ·exact .inr (.inr (.inr ⟨q1,hup q2⟩))
theorem ac1 {n i:Int}{e:aw}:ee n i e=true ↔ e.slot=⟨n,i⟩:=by
 simp [ee,aw.slot]
theorem yi.none_iff {R:dq}{K:a_}(h:yi R K)(n i:Int):K.held ⟨n,i⟩=none ↔ R.L.find? (ee n i)=none:=by
 rw [List.find?_eq_none];constructor
 ·intro h1 e he h2;obtain ⟨c,e1,_⟩:=h.cap e he;rw [ac1.1 h2,h1] at e1;cases e1
 ·intro h1;exact h.emp _ (fun e he h2=>h1 e he (ac1.2 h2))
theorem yi.some_of {R:dq}{K:a_}(h:yi R K){n i:Int}{e:aw}(he:R.L.find? (ee n i)=some e):∃c,K.held ⟨n,i⟩=some c/\c.told=e.told:=by
 obtain ⟨c,e1,e2⟩:=h.cap e (List.mem_of_find?_eq_some he);have:=List.find?_some he;rw [ac1.1 this] at e1;exact ⟨c,e1,e2⟩
theorem yi.isSome {R:dq}{K:a_}(h:yi R K)(n i:Int):(K.held ⟨n,i⟩).isSome=(R.L.find? (ee n i)).isSome:=by
 cases hf:R.L.find? (ee n i) with
 | none=>rw [(h.none_iff n i).2 hf];rfl
 | some e=>obtain ⟨c,e1,_⟩:=h.some_of hf;rw [e1];rfl
theorem yi.node {R:dq}{K:a_}(h:yi R K)(n i:Int):nf K ⟨n,i⟩=u_ R.L n i:=by
 unfold nf u_;cases hf:R.L.find? (ee n i) with
 | none=>rw [(h.none_iff n i).2 hf]
 | some e=>
  obtain ⟨c,e1,e2⟩:=h.some_of hf;rw [e1];cases c<;>simp only [KCap.told,aw.told,Prod.mk.injEq] at e2<;>obtain ⟨a1,a2,_⟩:=e2<;>simp [<- a1,a2]
theorem yi.ok {R:dq}{K:a_}(h:yi R K)(n x:Int):okK K n x=pt R.N n x:=by
 unfold okK pt bt;rw [h.nodes]
def ta (p:Int×Int):Slot:=⟨p.1,p.2⟩
theorem yi.go {R:dq}{K:a_}(h:yi R K):∀(l:List Int) (nd:Int),goK K nd l=(goF R.L R.N nd l).map ta
 | [],nd=>rfl
 | [x],nd=>by
  simp only [goK,goF];rw [h.ok];split<;>rfl
 | x :: y :: r,nd=>by
  simp only [goK,goF];rw [h.ok,h.node];split
  ·cases u_ R.L nd x with
   | none=>rfl
   | some nd'=>exact h.go (y :: r) nd'
  ·rfl
theorem yi.find {R:dq}{K:a_}(h:yi R K)(root:Int)(l:List Int):az K root l=(bk R.L R.N root l).map ta:=by
 unfold az bk;split
 ·rfl
 ·exact h.go l root
def KCap.rights (c:KCap):Int:=c.told.2.2.2.1
structure bq (R:dq)(K:a_)(D:List (Int×Int)):Prop where
 rel:yi R K
 geo:Geo K.held K.st
 inN:∀s c,K.held s=some c->0<=s.index/\(s.index<bt K s.node\/∃d∈D,d.1=s.node/\s.index<d.2)
 dm:∀d∈D,0<=d.1/\d.1<1024/\0<=d.2/\d.2<=16/\K.nodes d.1=none
 dn:(D.map Prod.fst).Nodup
 nod:∀b x,K.nodes b=some x->0<=b/\b<1024/\x<=16/\∃s n r,K.held s=some (.node b n r)
 cap:∀s c,K.held s=some c->0<=c.base/\0<=c.bits/\c.bits<=10/\c.base+pw c.bits.toNat<=1024/\0<=c.mark/\c.mark<=pw c.bits.toNat
 hno:∀s b n r,K.held s=some (.node b n r)->3<=n/\n<=6/\K.nodes b=some (pw n.toNat / 4)
 thd:∀b t,K.thr b=some t->∃s n r,K.held s=some (.task b n r)
 hth:∀s b n r,K.held s=some (.task b n r)->∃t,K.thr b=some t
 que:∀b q,K.qs b=some q->∃s n r g,K.held s=some (.endpoint b n r g)
 hen:∀s b n r g,K.held s=some (.endpoint b n r g)->∃q,K.qs b=some q
 nd:(R.N.map pp.base).Nodup
 td:(R.T.map ej.base).Nodup
 nb:∀l∈R.N,0<=l.base/\l.base<1024/\0<=l.bits/\l.bits<=6
 tb:∀t∈R.T,0<=t.base/\t.base<1024/\t.base % 16=0
 rt:∀s c,K.held s=some c->0<=c.rights/\c.rights<=7
 dap:∀d∈D,∀s c,K.held s=some c->c.isU=false->c.base+pw c.bits.toNat<=d.1\/d.1+8<=c.base
theorem am3:∀(n:Nat) (l:List Nat),l.Nodup->(∀x∈l,x<n)->l.length<=n
 | 0,l,_,h=>by
  cases l with
  | nil=>simp
  | cons a l=>exact absurd (h a (by simp)) (by omega)
 | n+1,l,hn,h=>by
  have h1:=am3 n (l.erase n) (hn.erase n) (fun x hx=>by
   have h2:=h x (List.mem_of_mem_erase hx);have h3:x≠n:=fun e=>by subst e;exact (List.Nodup.not_mem_erase hn) hx
   omega)
  have h4:l.length<=(l.erase n).length+1:=by
   rw [List.length_erase];split<;>omega
  omega
theorem qi {α:Type}(f:α->Nat)(n:Nat)(l:List α)(hl:l.Nodup)(hf:∀a∈l,∀b∈l,f a=f b->a=b)(hb:∀a∈l,f a<n):l.length<=n:=by
 have h1:(l.map f).Nodup:=by
  rw [List.nodup_iff_pairwise_ne,List.pairwise_map];have:=List.nodup_iff_pairwise_ne.1 hl;rw [List.pairwise_iff_forall_sublist] at this ⊢;intro a b hab e;have ha:a∈l:=hab.subset (by simp);have hb':b∈l:=hab.subset (by simp);exact this hab (hf a ha b hb' e)
 have h2:=am3 n (l.map f) h1 (fun x hx=>by obtain ⟨a,ha,rfl⟩:=List.mem_map.1 hx;exact hb a ha);simpa using h2
theorem af3 {R:dq}{K:a_}{D:List (Int×Int)}(h:bq R K D)(b:Int):bt K b<=16:=by
 unfold bt;cases hb:K.nodes b with
 | none=>simp
 | some x=>have:=(h.nod b x hb).2.2.1;simpa using this
theorem bb9 {R:dq}{K:a_}{D:List (Int×Int)}(h:bq R K D){b:Int}(hp:0<bt K b):0<=b/\b<1024:=by
 unfold bt at hp;cases hb:K.nodes b with
 | none=>rw [hb] at hp;simp at hp
 | some x=>have:=h.nod b x hb;exact ⟨this.1,this.2.1⟩
theorem bq.slot {R:dq}{K:a_}{D:List (Int×Int)}(h:bq R K D){s:Slot}{c:KCap}(hs:K.held s=some c):0<=s.node/\s.node<1024/\0<=s.index/\s.index<16:=by
 obtain ⟨h1,h2 | ⟨d,hd,e1,h2⟩⟩:=h.inN s c hs
 ·have h3:=bb9 h (b:=s.node) (by omega);have h4:=af3 h s.node;exact ⟨h3.1,h3.2,h1,by omega⟩
 ·have h3:=h.dm d hd;exact ⟨by omega,by omega,h1,by omega⟩
theorem bq.len {R:dq}{K:a_}{D:List (Int×Int)}(h:bq R K D):R.L.length<=16384:=by
 obtain ⟨F,hF⟩:=h.rel.tree;have hb:∀s∈R.L.map aw.slot,0<=s.node/\s.node<1024/\0<=s.index/\s.index<16:=by
  intro s hs;obtain ⟨e,he,rfl⟩:=List.mem_map.1 hs;obtain ⟨c,hc,_⟩:=h.rel.cap e he;exact h.slot hc
 have:=qi (fun s:Slot=>s.node.toNat*16+s.index.toNat) 16384 (R.L.map aw.slot) hF.nd (fun a ha b hb' e=>by
  obtain ⟨a1,a2,a3,a4⟩:=hb a ha;obtain ⟨b1,b2,b3,b4⟩:=hb b hb';try dsimp only at e
  cases a;cases b
  dsimp only at *
  congr 1<;>omega) (fun a ha=>by
  obtain ⟨a1,a2,a3,a4⟩:=hb a ha;try dsimp only
  omega)
 simpa using this
theorem bq.lenN {R:dq}{K:a_}{D:List (Int×Int)}(h:bq R K D):R.N.length<=1024:=by
 have:=qi (fun b:Int=>b.toNat) 1024 (R.N.map pp.base) h.nd (fun a ha b hb e=>by
  obtain ⟨l,hl,rfl⟩:=List.mem_map.1 ha;obtain ⟨l',hl',rfl⟩:=List.mem_map.1 hb;have:=h.nb l hl;have:=h.nb l' hl';try dsimp only at e
  omega) (fun a ha=>by
  obtain ⟨l,hl,rfl⟩:=List.mem_map.1 ha;have:=h.nb l hl;try dsimp only
  omega)
 simpa using this
theorem bq.lenT {R:dq}{K:a_}{D:List (Int×Int)}(h:bq R K D):R.T.length<=1024:=by
 have:=qi (fun b:Int=>b.toNat) 1024 (R.T.map ej.base) h.td (fun a ha b hb e=>by
  obtain ⟨l,hl,rfl⟩:=List.mem_map.1 ha;obtain ⟨l',hl',rfl⟩:=List.mem_map.1 hb;have:=h.tb l hl;have:=h.tb l' hl';try dsimp only at e
  omega) (fun a ha=>by
  obtain ⟨l,hl,rfl⟩:=List.mem_map.1 ha;have:=h.tb l hl;try dsimp only
  omega)
 simpa using this
theorem aw1:∀(F:Fo) (d:Int),∀x∈F.flat d,x.2<d+F.slots.length
 | .nil,_,x,h=>by simp [Fo.flat] at h
 | .node s kids next,d,x,h=>by
  simp only [Fo.flat,List.mem_cons,List.mem_append] at h;simp only [Fo.slots,List.length_cons,List.length_append];rcases h with rfl | h | h
  ·dsimp only;omega
  ·have:=aw1 kids (d+1) x h;omega
  ·have:=aw1 next d x h;omega
theorem bq.up {R:dq}{K:a_}{D:List (Int×Int)}(h:bq R K D)(i:Nat)(hi:i<R.L.length):0<=R.L[i].up/\R.L[i].up<=16384:=by
 obtain ⟨F,hF⟩:=h.rel.tree;have hm:R.L[i].key∈F.flat 0:=by rw [<- hF.flat];exact List.mem_map.2 ⟨_,List.getElem_mem hi,rfl⟩
 have h1:=Fo.flat_ge F 0 _ hm;have h2:=aw1 F 0 _ hm;have h3:F.slots.length=R.L.length:=by rw [hF.slots];simp
 have h4:=h.len;simp only [aw.key] at h1 h2;omega
theorem bq.kids {R:dq}{K:a_}{D:List (Int×Int)}(h:bq R K D){s:Slot}{x:nw}(hx:K.st s=some x):x.kids.length<=16384:=by
 obtain ⟨F,hF⟩:=h.rel.tree;have h3:F.slots.length=R.L.length:=by rw [hF.slots];simp
 have h4:=h.len;rcases hF.only s x hx with h1 | h1
 ·obtain ⟨y,e1,_,_,e4,_⟩:=hF.stands.fact hF.nodup s h1;rw [hx] at e1;cases e1
  omega
 ·obtain ⟨y,e1,e2⟩:=hF.roots;rw [<- h1,hx] at e1;cases e1
  rw [e2];have:=(Fo.roots_sublist F).length_le;omega
theorem mz {R:dq}{K:a_}{F:Fo}(h:yi R K)(hF:ii R.L K.st F){s:Slot}:s∈F.slots ↔ ∃c,K.held s=some c:=by
 rw [hF.slots];constructor
 ·intro h1;obtain ⟨e,he,rfl⟩:=List.mem_map.1 h1;obtain ⟨c,hc,_⟩:=h.cap e he;exact ⟨c,hc⟩
 ·rintro ⟨c,hc⟩;by_cases hex:∃e∈R.L,e.slot=s
  ·obtain ⟨e,he,e1⟩:=hex;exact List.mem_map.2 ⟨e,he,e1⟩
  ·rw [h.emp s (fun e he e1=>hex ⟨e,he,e1⟩)] at hc;cases hc
theorem yi.treeOk {R:dq}{K:a_}(h:yi R K):ap3 K:=by
 obtain ⟨F,hF⟩:=h.tree;refine ⟨?_,?_⟩
 ·intro s k hk;have hs:=(mz h hF).2 ⟨k,hk⟩;obtain ⟨x,e1,e2,e3,e4,e5,e6⟩:=hF.stands.fact hF.nodup s hs;obtain ⟨rt,r1,r2⟩:=hF.roots;have hy:∃y,K.st x.parent=some y/\s∈y.kids/\y.kids.Nodup:=by
   rcases e6 with ⟨e,e7⟩ | ⟨_,y,e7,e8,e9⟩
   ·exact ⟨rt,by rw [e];exact r1,by rw [r2];exact e7,by rw [r2];exact (Fo.roots_sublist F).nodup hF.nodup⟩
   ·exact ⟨y,e7,e8,e9⟩
  obtain ⟨y,y1,y2,y3⟩:=hy;refine ⟨x,y,e1,y1,?_,y2,y3,fun c hc=>⟨?_,fun e=>e2 (e▸hc)⟩⟩
  ·intro e;rw [e,e1] at y1;cases y1;exact e2 y2
  ·obtain ⟨_,z,hz,_⟩:=e5 c hc;exact ⟨z,hz⟩
 ·intro t ht hi;cases hst:K.st t with
  | none=>rfl
  | some x=>
   rcases hF.only t x hst with h1 | h1
   ·obtain ⟨c,hc⟩:=(mz h hF).1 h1;rw [ht] at hc;cases hc
   ·rw [h1] at hi;simp [nowhere] at hi
theorem bq.retypeOk {R:dq}{K:a_}{D:List (Int×Int)}(h:bq R K D):ap1 K:=by
 refine ⟨?_,?_,?_⟩
 ·intro f b n m hf;obtain ⟨h1,h2,h3,h4,h5,h6⟩:=h.cap f _ hf;simp only [KCap.base,KCap.bits,KCap.mark] at h1 h2 h3 h4 h5 h6;have:=lq n.toNat;exact ⟨⟨h1,by omega⟩,⟨h5,by omega⟩,h2,h3⟩
 ·intro f x hx;have:=h.kids hx;omega
 ·intro b;have:=af3 h b;omega
theorem bq.refOk {R:dq}{K:a_}{D:List (Int×Int)}(h:bq R K D):R.L.length<=900000/\R.N.length<=900000/\R.T.length<=900000/\(∀l∈R.N,0<=l.bits/\l.bits<=20)/\(∀i (hi:i<R.L.length),0<=R.L[i].up/\R.L[i].up<=900000):=by
 refine ⟨by have:=h.len;omega,by have:=h.lenN;omega,by have:=h.lenT;omega,fun l hl=>?_,fun i hi=>?_⟩
 ·have:=h.nb l hl;omega
 ·have:=h.up i hi;omega
def ah8 (K:a_)(f:Slot)(a z:Int):Prop:=∀s e,s≠f->K.held s=some e->(e.base+pw e.bits.toNat<=a\/a+z<=e.base)\/(e.isU=true/\Up K.st s f)
theorem ml {s:Slot}(h:0<=s.index):s≠nowhere:=fun e=>by rw [e] at h;simp [nowhere] at h
theorem bq.top {R:dq}{K:a_}{D:List (Int×Int)}(h:bq R K D):K.held nowhere=none:=by
 cases hc:K.held nowhere with
 | none=>rfl
 | some c=>exact absurd (h.inN _ c hc).1 (by simp [nowhere])
theorem bq.stand {R:dq}{K:a_}{D:List (Int×Int)}(h:bq R K D){t:Slot}{x:nw}(ht:t≠nowhere)(hx:K.st t=some x):
 (∃c,K.held t=some c)/\(x.parent=nowhere\/((∃d,K.held x.parent=some d)/\∃y,K.st x.parent=some y/\t∈y.kids)):=by
 obtain ⟨F,hF⟩:=h.rel.tree;rcases hF.only t x hx with h1 | h1
 ·refine ⟨(mz h.rel hF).1 h1,?_⟩;obtain ⟨x',e1,_,_,_,_,e6⟩:=hF.stands.fact hF.nodup t h1;rw [hx] at e1;cases e1
  rcases e6 with ⟨e,_⟩ | ⟨e,y,e7,e8,_⟩
  ·exact .inl e
  ·exact .inr ⟨(mz h.rel hF).1 e,y,e7,e8⟩
 ·exact absurd h1 ht
theorem bq.below {R:dq}{K:a_}{D:List (Int×Int)}(h:bq R K D){s t:Slot}{b n m:Int}(hs:K.held s=some (.untyped b n m))(hu:Up K.st s t){c:KCap}(hc:K.held t=some c):
 b<=c.base/\c.base+pw c.bits.toNat<=b+m:=
 h.geo.below (fun _ _ ht hx hp=>((h.stand ht hx).2.resolve_left hp).1) (fun s c hc=>(h.cap s c hc).2.2.2.2.2) hs hu c hc
theorem bq.noUp {R:dq}{K:a_}{D:List (Int×Int)}(h:bq R K D){s:Slot}(hs:s≠nowhere)(hk:c_ K s=false)(t:Slot)(x:nw)(ht:t≠nowhere)(hx:K.st t=some x):x.parent≠s:=by
 intro e;rcases (h.stand ht hx).2 with h1 | ⟨_,y,h1,h2⟩
 ·exact hs (e▸h1)
 ·unfold c_ at hk;rw [<- e,h1] at hk;simp only [decide_eq_false_iff_not] at hk;have:=List.length_pos_of_mem h2;omega
theorem bq.free {R:dq}{K:a_}{D:List (Int×Int)}(h:bq R K D){f:Slot}{b n m:Int}(hs:K.held f=some (.untyped b n m)){a z:Int}(ha:b+m<=a)(hz:a+z<=b+pw n.toNat):ah8 K f a z:=by
 intro s e hne he;have hcap:=h.cap _ _ hs;simp only [KCap.base,KCap.bits,KCap.mark] at hcap;rcases h.geo.apart s f e _ hne he hs with g | g | ⟨g1,g2⟩ | ⟨g1,g2⟩
 ·have g':e.base+pw e.bits.toNat<=b\/b+pw n.toNat<=e.base:=g;left;omega
 ·have:=g.isU;simp [KCap.isU] at this
 ·exact .inr ⟨g1,g2⟩
 ·have:=h.below hs g2 he;left;left;omega
theorem ah8.node {R:dq}{K:a_}{D:List (Int×Int)}(h:bq R K D){f:Slot}{b n m a z:Int}(hs:K.held f=some (.untyped b n m))(hF:ah8 K f a z){y:Int}(h1:a<=y)(h2:y<a+z):K.nodes y=none/\K.thr y=none/\K.qs y=none:=by
 have key:∀s e,K.held s=some e->e.isU=false->e.base≠y:=by
  intro s e he hu hb;have hne:s≠f:=fun e1=>by rw [e1,hs] at he;cases he;simp [KCap.isU] at hu
  have:=lq e.bits.toNat;rcases hF s e hne he with g | ⟨g,_⟩
  ·omega
  ·rw [hu] at g;cases g
 refine ⟨?_,?_,?_⟩
 ·cases hy:K.nodes y with
  | none=>rfl
  | some x=>obtain ⟨_,_,_,s,n,r,hh⟩:=h.nod y x hy;exact absurd rfl (key s _ hh rfl)
 ·cases hy:K.thr y with
  | none=>rfl
  | some x=>obtain ⟨s,n,r,hh⟩:=h.thd y x hy;exact absurd rfl (key s _ hh rfl)
 ·cases hy:K.qs y with
  | none=>rfl
  | some x=>obtain ⟨s,n,r,g,hh⟩:=h.que y x hy;exact absurd rfl (key s _ hh rfl)
end Go.Proofs.YtdpjgflemddekaaGreatDoor

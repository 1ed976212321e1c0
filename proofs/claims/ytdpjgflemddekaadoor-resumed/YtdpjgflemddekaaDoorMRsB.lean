/- A call that is preempted and made again: the threads, the addresses, the marks. Nothing of the program's text. -/
import Derived.Test.YtdpjgflemddekaaDoorMKeepF
namespace Go.Proofs.YtdpjgflemddekaaDoor
def TL (T T':List gh):Prop:=∀t'∈T',∃t∈T,t.base=t'.base/\(t'.root=t.root\/t'.root=-1)
theorem TL.refl (T:List gh):TL T T:=fun t h=>⟨t,h,rfl,.inl rfl⟩
theorem TL.trans {T T1 T2:List gh}(h:TL T T1)(g:TL T1 T2):TL T T2:=fun t2 h2=>by
 obtain ⟨t1,h1,e1,f1⟩:=g t2 h2;obtain ⟨t,h0,e0,f0⟩:=h t1 h1;refine ⟨t,h0,e0.trans e1,?_⟩;rcases f1 with f1 | f1
 ·rw [f1];exact f0
 ·exact .inr f1
theorem bx1 (x:Int):∀(T:List gh),TL T (setT x az_ T)
 | []=>TL.refl _
 | t :: T=>by
  intro t' h';unfold setT at h';split at h'
  ·rcases List.mem_cons.1 h' with rfl | h'
   ·exact ⟨t,by simp,rfl,.inl rfl⟩
   ·exact ⟨t',by simp [h'],rfl,.inl rfl⟩
  ·rcases List.mem_cons.1 h' with rfl | h'
   ·exact ⟨t',by simp,rfl,.inl rfl⟩
   ·obtain ⟨u,h1,h2⟩:=bx1 x T t' h';exact ⟨u,by simp [h1],h2⟩
theorem bg2 (b:Int):∀(l:List Wt) (x:List gh×List Wt),TL x.1 (l.foldl (lh b) x).1
 | [],_=>TL.refl _
 | w :: l,x=>by
  rw [List.foldl_cons];refine TL.trans ?_ (bg2 b l _);unfold lh;split
  ·exact bx1 w.thread x.1
  ·exact TL.refl _
theorem by6 (S:RS)(ty b bits:Int):TL S.R.T (ae8 S ty b bits).R.T:=by
 unfold ae8;split
 ·intro t' h';obtain ⟨t,h1,rfl⟩:=List.mem_map.1 h';unfold ma;split
  ·exact ⟨t,h1,rfl,.inr rfl⟩
  ·exact ⟨t,h1,rfl,.inl rfl⟩
 ·split
  ·exact bg2 b S.q (S.R.T,S.q)
  ·split
   ·intro t' h';exact ⟨t',(List.mem_filter.1 h').1,rfl,.inl rfl⟩
   ·exact TL.refl _
theorem ax2 (S:RS)(i:Nat)(e:bo):TL S.R.T (jg S i e).R.T:=by
 unfold jg;split
 ·exact TL.refl _
 ·exact by6 {S with R:={S.R with L:=nw S.R.L i e.up}} e.ty e.base e.bits
theorem av3 (S:RS):TL S.R.T (em S).R.T:=by
 unfold em;split
 ·exact TL.refl _
 ·split
  ·exact TL.refl _
  ·unfold sr;split
   ·exact TL.refl _
   ·split
    ·exact TL.refl _
    ·exact ax2 {S with D:=_} _ _
theorem yy:∀(n:Nat) (S:RS) (bs:List Bool),TL S.R.T (ak em eh n S bs).1.R.T
 | 0,S,bs=>TL.refl _
 | n+1,S,bs=>by
  by_cases hd:eh S=true
  ·rw [iy _ _ hd];exact TL.refl _
  ·cases bs with
   | nil=>rw [vg _ hd];exact (av3 S).trans (yy n _ _)
   | cons b r=>
    cases b with
    | true=>rw [ab2 _ _ hd];exact av3 S
    | false=>rw [ac1 _ _ hd];exact (av3 S).trans (yy n _ _)
theorem ao2 (S:RS)(p:Nat)(e:bo)(bs:List Bool):TL S.R.T (takeB S p e bs).2.1.R.T:=by
 unfold takeB;split
 ·exact ax2 S p e
 ·exact (ax2 S p e).trans (yy _ _ _)
theorem aq2 (n i:Int):∀(k:Nat) (S:RS) (bs:List Bool),TL S.R.T (bd k S n i bs).2.1.R.T
 | 0,S,bs=>TL.refl _
 | k+1,S,bs=>by
  rcases su S n i with e | ⟨p,hp,e⟩
  ·rw [e];exact TL.refl _
  ·rw [e];split
   ·exact (ao2 S p _ bs).trans (aq2 n i k _ _)
   ·exact ao2 S p _ bs
theorem TL.find {T T':List gh}(h:TL T T')(hn:(T.map gh.base).Nodup){b:Int}{t' t:gh}(h':T'.find? (ao b)=some t')(ht:T.find? (ao b)=some t):t'.root=t.root\/t'.root=-1:=by
 obtain ⟨u,hu,e1,e2⟩:=h t' (List.mem_of_find?_eq_some h');have hb':=List.find?_some h';have hb:=List.find?_some ht;simp only [ao,beq_iff_eq] at hb hb';have hut:u=t:=by
  have ht':=List.mem_of_find?_eq_some ht;obtain ⟨i,hi,rfl⟩:=List.getElem_of_mem hu;obtain ⟨j,hj,rfl⟩:=List.getElem_of_mem ht';have:(T.map gh.base)[i]'(by simpa using hi)=(T.map gh.base)[j]'(by simpa using hj):=by
   simp only [List.getElem_map];rw [e1,hb',hb]
  have:=(List.getElem_inj hn).1 this;subst this;rfl
 rw [<- hut];exact e2
def NL (S S':KS):Prop:=∀b x,S'.K.nodes b=some x->S.K.nodes b=some x
theorem NL.refl (S:KS):NL S S:=fun _ _ h=>h
theorem NL.trans {S S1 S2:KS}(h:NL S S1)(g:NL S1 S2):NL S S2:=fun b x e=>h b x (g b x e)
theorem b04 (S:KS)(c:KCap):NL S (ah8 S c):=by
 cases c with
 | node b n r=>
  intro b' x h;have h:upd S.K.nodes b none b'=some x:=h;by_cases e:b'=b
  ·rw [e,ai] at h;cases h
  ·rw [af _ _ e] at h;exact h
 | _=>exact fun _ _ h=>h
theorem aw0 (S:KS)(s:Slot):NL S (d_ S s):=by
 cases hc:S.K.held s with
 | none=>rw [kw hc];exact NL.refl S
 | some c=>
  by_cases hh:pp (jq S.K s) c.ty c.base
  ·rw [jn hc hh];exact fun _ _ h=>h
  ·rw [fo hc hh];exact fun b x h=>b04 ⟨jq S.K s,S.D⟩ c b x h
theorem ax4 (S:KS):NL S (az S):=by
 unfold az;split
 ·exact NL.refl S
 ·split
  ·exact NL.refl S
  ·exact aw0 {S with D:=_} _
theorem zl:∀(n:Nat) (S:KS) (bs:List Bool),NL S (ak az bf n S bs).1
 | 0,S,bs=>NL.refl S
 | n+1,S,bs=>by
  by_cases hd:bf S=true
  ·rw [iy _ _ hd];exact NL.refl S
  ·cases bs with
   | nil=>rw [vg _ hd];exact (ax4 S).trans (zl n _ _)
   | cons b r=>
    cases b with
    | true=>rw [ab2 _ _ hd];exact ax4 S
    | false=>rw [ac1 _ _ hd];exact (ax4 S).trans (zl n _ _)
theorem an7 (S:KS)(s:Slot)(bs:List Bool):NL S (co S s bs).2.1:=by
 unfold co;split
 ·exact aw0 S s
 ·exact (aw0 S s).trans (zl _ _ _)
theorem ar_:∀(n:Nat) (S:KS) (s:Slot) (bs:List Bool),NL S (bw n S s bs).2.1
 | 0,S,_,_=>NL.refl S
 | n+1,S,s,bs=>by
  unfold bw;split
  ·split
   ·exact (an7 S _ _).trans (ar_ n _ _ _)
   ·exact an7 S _ _
  ·exact NL.refl S
theorem bh_ {S S':KS}(hn:NL S S'){nd x:Int}(h:okK S'.K nd x=true):okK S.K nd x=true:=by
 unfold okK bz at h ⊢;cases he:S'.K.nodes nd with
 | none=>rw [he] at h;simp at h;omega
 | some y=>rw [he] at h;rw [hn _ _ he];exact h
theorem ab9 {S S':KS}(hl:mh S S')(hn:NL S S'){root:Int}{l:List Int}{s:Slot}(h:ay S'.K root l=some s):ay S.K root l=some s:=by
 unfold ay at h ⊢;split at h
 ·cases h
 ·rename_i hlen;rw [if_neg hlen];clear hlen;induction l generalizing root with
  | nil=>simp [goK] at h
  | cons x r ih=>
   cases r with
   | nil=>
    unfold goK at h ⊢;split at h
    ·rename_i hx;rw [if_pos (bh_ hn hx)];exact h
    ·cases h
   | cons y r=>
    rw [goK] at h ⊢;split at h
    ·rename_i hx;rw [if_pos (bh_ hn hx)];cases hk:j9 S'.K ⟨root,x⟩ with
     | none=>rw [hk] at h;cases h
     | some nd=>
      rw [hk] at h;have:j9 S.K ⟨root,x⟩=some nd:=by
       unfold j9 at hk ⊢;cases hh:S'.K.held ⟨root,x⟩ with
       | none=>rw [hh] at hk;cases hk
       | some c=>rw [hh] at hk;rw [hl _ _ hh];exact hk
      rw [this];exact ih h
    ·cases h
theorem bg7 {K:a_}:∀{l:List Int} {root:Int} {s:Slot},goK K root l=some s->okK K s.node s.index=true
 | [],_,_,h=>by cases h
 | [x],root,s,h=>by
  unfold goK at h;split at h
  ·rename_i hx;cases h;exact hx
  ·cases h
 | x :: y :: r,root,s,h=>by
  rw [goK] at h;split at h
  ·cases hk:j9 K ⟨root,x⟩ with
   | none=>rw [hk] at h;cases h
   | some nd=>rw [hk] at h;exact bg7 h
  ·cases h
theorem bk4 {K:a_}{l:List Int}{root:Int}{s:Slot}(h:ay K root l=some s):okK K s.node s.index=true:=by
 unfold ay at h;split at h
 ·cases h
 ·exact bg7 h
theorem Ag.nodeThere {R:RS}{S:KS}(h:Ag R S){s:Slot}(ho:okK S.K s.node s.index=true):¬yc S.K s.node:=by
 intro hn;unfold okK bz at ho;cases he:S.K.nodes s.node with
 | none=>rw [he] at ho;simp at ho;omega
 | some y=>
  obtain ⟨_,_,_,u,n,r,hu⟩:=h.core.nod _ _ he;exact hn u _ n r hu rfl
theorem Ag.noRoot {R:RS}{S:KS}(h:Ag R S)(l:List Int):cp R.R.L R.R.N (o6 R.R.N (-1)) l=none:=by
 rw [h.core.still];have hf:=h.core.rel.find (-1) l;cases hfi:cp R.R.L R.R.N (-1) l with
 | none=>rfl
 | some q=>
  rw [hfi] at hf;simp only [Option.map_some] at hf;exfalso
  unfold ay at hf;split at hf
  ·cases hf
  ·have hno:∀x,okK S.K (-1) x=false:=by
    intro x;unfold okK bz;cases he:S.K.nodes (-1) with
    | none=>simp
    | some y=>have:=(h.core.nod _ _ he).1;omega
   match l,hf with
   | [],hf=>cases hf
   | [x],hf=>unfold goK at hf;rw [if_neg (by rw [hno];decide)] at hf;cases hf
   | x :: y :: r,hf=>rw [goK,if_neg (by rw [hno];decide)] at hf;cases hf
theorem Ag.up_lt {R:RS}{S:KS}(h:Ag R S){s t:Slot}(hu:Up S.K.st s t):∀(j:Nat) (hj:j<R.R.L.length),R.R.L[j].slot=t->∀(i:Nat) (hi:i<R.R.L.length),R.R.L[i].slot=s->i<j:=by
 induction hu with
 | one g1 g2 g3=>
  rename_i t x;intro j hj ej i hi ei;subst ej;rcases h.parRow hj g2 with e | ⟨q,hq,hlt,e⟩
  ·obtain ⟨c,hc,_⟩:=h.core.rel.cap _ (List.getElem_mem hi);rw [ei] at hc;exact absurd (g3.symm.trans e) (df (h.core.inN _ _ hc).1)
  ·have:q=i:=h.rows_one hq hi (e.symm.trans (g3.trans ei.symm));omega
 | more g1 g2 g3 ih=>
  rename_i t x;intro j hj ej i hi ei;subst ej;rcases h.parRow hj g2 with e | ⟨q,hq,hlt,e⟩
  ·rw [e] at g3;cases g3 with
   | one q1 _ _=>exact absurd rfl q1
   | more q1 _ _=>exact absurd rfl q1
  ·have:=ih q hq e.symm i hi ei;omega
theorem Ag.up_ne {R:RS}{S:KS}(h:Ag R S){s:Slot}{c:KCap}(hc:S.K.held s=some c):¬Up S.K.st s s:=by
 intro hu;obtain ⟨p,hp,e⟩:=b7.at h hc;have:=h.up_lt hu p hp e p hp e;omega
theorem ae3 (s:Slot)(hs:0<=s.index):∀(k:Nat) {R:RS} {S:KS} (bs:List Bool) (_:Ag R S),Cut s S (bw k S s bs).2.1
 | 0,R,S,_,h=>Cut.refl s S
 | k+1,R,S,bs,h=>by
  unfold bw;split
  ·rename_i hk;obtain ⟨c,g1,g2⟩:=bd_ h hs hk;obtain ⟨p,hp,e⟩:=b7.at h g1;have hA:=(h.takeB hp bs).2.2.1;have hT:=h.take hp;rw [e] at hA hT;have hc:Cut s S (co S (ip S.K s) bs).2.1:=by
    unfold co;split
    ·exact zf h s g1 (.inl g2)
    ·exact (zf h s g1 (.inl g2)).trans (sf s _ hT _)
   split
   ·exact hc.trans (ae3 s hs k _ hA)
   ·exact hc
  ·exact Cut.refl s S
theorem am0:∀(L:List bo) (p:Nat) (e e':bo),L[p]?=some e->e'.node=e.node->e'.index=e.index->e'.ty=e.ty->e'.base=e.base->∀nd x,rh (L.set p e') nd x=rh L nd x
 | [],_,_,_,h,_,_,_,_,_,_=>by simp at h
 | a :: L,0,e,e',h,h1,h2,h3,h4,nd,x=>by
  simp only [List.getElem?_cons_zero,Option.some.injEq] at h;subst h;have hi:fh nd x e'=fh nd x a:=by unfold fh;rw [h1,h2]
  unfold rh;rw [List.set_cons_zero,List.find?_cons,List.find?_cons,hi];cases fh nd x a with
  | true=>simp only [h3,h4]
  | false=>rfl
 | a :: L,p+1,e,e',h,h1,h2,h3,h4,nd,x=>by
  have ih:=am0 L p e e' (by simpa using h) h1 h2 h3 h4 nd x;unfold rh at ih ⊢;rw [List.set_cons_succ,List.find?_cons,List.find?_cons];cases fh nd x a with
  | true=>rfl
  | false=>exact ih
theorem ac_ {L:List bo}{p:Nat}{e e':bo}(h:L[p]?=some e)(h1:e'.node=e.node)(h2:e'.index=e.index)(h3:e'.ty=e.ty)(h4:e'.base=e.base)(N:List ya)(root:Int)(l:List Int):cp (L.set p e') N root l=cp L N root l:=by
 have go:∀(l:List Int) (nd:Int),goF (L.set p e') N nd l=goF L N nd l:=by
  intro l;induction l with
  | nil=>intro nd;rfl
  | cons x r ih=>
   intro nd;cases r with
   | nil=>rfl
   | cons y r=>
    rw [goF,goF,am0 L p e e' h h1 h2 h3 h4 nd x];split
    ·split
     ·exact ih _
     ·rfl
    ·rfl
 unfold cp;rw [go]
theorem vm:∀(L:List bo) (p:Nat) (e e':bo),L[p]?=some e->e'.node=e.node->e'.index=e.index->∀nd x,(L.set p e').findIdx? (fh nd x)=L.findIdx? (fh nd x)
 | [],_,_,_,h,_,_,_,_=>by simp at h
 | a :: L,0,e,e',h,h1,h2,nd,x=>by
  simp only [List.getElem?_cons_zero,Option.some.injEq] at h;subst h;have hi:fh nd x e'=fh nd x a:=by unfold fh;rw [h1,h2]
  rw [List.set_cons_zero,List.findIdx?_cons,List.findIdx?_cons,hi]
 | a :: L,p+1,e,e',h,h1,h2,nd,x=>by
  have ih:=vm L p e e' (by simpa using h) h1 h2 nd x;rw [List.set_cons_succ,List.findIdx?_cons,List.findIdx?_cons,ih]
theorem a44:∀(L:List bo) (p:Nat) (e e':bo),L[p]?=some e->e'.node=e.node->e'.index=e.index->∀nd x,((L.set p e').find? (fh nd x)).isSome=(L.find? (fh nd x)).isSome
 | [],_,_,_,h,_,_,_,_=>by simp at h
 | a :: L,0,e,e',h,h1,h2,nd,x=>by
  simp only [List.getElem?_cons_zero,Option.some.injEq] at h;subst h;have hi:fh nd x e'=fh nd x a:=by unfold fh;rw [h1,h2]
  rw [List.set_cons_zero,List.find?_cons,List.find?_cons,hi];cases fh nd x a<;>rfl
 | a :: L,p+1,e,e',h,h1,h2,nd,x=>by
  have ih:=a44 L p e e' (by simpa using h) h1 h2 nd x;rw [List.set_cons_succ,List.find?_cons,List.find?_cons];cases fh nd x a with
  | true=>rfl
  | false=>exact ih
theorem bu7 {L:List bo}{p:Nat}{e e':bo}(h:L[p]?=some e)(h1:e'.node=e.node)(h2:e'.index=e.index)(n ix:Int)(k:Nat):k_ (L.set p e') n ix k=k_ L n ix k:=by
 unfold k_;congr 1;funext i;exact a44 L p e e' h h1 h2 n (ix+i)
theorem bt4 (L:List bo)(p:Nat)(e':bo)(up:Int):og (L.set p e') p up=og L p up:=by
 unfold og;rw [List.drop_set_of_lt (by omega)]
theorem by5 (ws:Nat->Int)(b m m' r:Int)(h1:r<=m')(h2:m'<=m):oy (oy ws (b+m') (m-m')) (b+r) (m'-r)=oy ws (b+r) (m-r):=by
 funext i;unfold oy;by_cases c1:b+r<=(i:Int)/\(i:Int)<b+r+(m'-r)
 ·rw [if_pos c1,if_pos (by omega)]
 ·rw [if_neg c1];by_cases c2:b+m'<=(i:Int)/\(i:Int)<b+m'+(m-m')
  ·rw [if_pos c2,if_pos (by omega)]
  ·rw [if_neg c2,if_neg (by omega)]
theorem bm5 (S:RS)(p:Nat)(e:bo)(m' r:Int)(h1:r<=m')(h2:m'<=e.mark):fc (fc S p e m') p {e with mark:=m'} r=fc S p e r:=by
 unfold fc;simp only [List.set_set,by5 S.ws e.base e.mark m' r h1 h2]
theorem bm3 (m:Int)(bs:List Bool)(h0:0<=m)(h1:m<=1600)(hf:(ax m bs).2.2=false):(ax (ax m bs).1 []).1=(ax m []).1/\((ax m bs).1+15) / 16<(m+15) / 16/\0<=(ax m bs).1/\(ax m bs).1<=m:=by
 have he:=ai3 100 m (by omega);have hr:=i_ 100 m bs h0;have hr2:∀r,(ak (fun m:Int=>max (m-16) 0) (fun m=>decide (m<=0)) 99 (max (m-16) 0) r).1<=max (m-16) 0:=fun r=>(i_ 99 (max (m-16) 0) r (by omega)).2
 have hs:(fun m:Int=>max (m-16) 0) m=max (m-16) 0:=rfl
 have hdn:(fun m:Int=>decide (m<=0)) m=decide (m<=0):=rfl
 unfold ax at hf ⊢;generalize (fun m:Int=>max (m-16) 0)=step at *
 generalize (fun m:Int=>decide (m<=0))=done at *
 obtain ⟨k,q1,q2,q3⟩:=xq 100 m bs he hf;refine ⟨by rw [ac8 k 100 _ q1 q2];exact q3,?_,hr⟩;by_cases hd:done m=true
 ·rw [iy _ _ hd] at hf;cases hf
 ·have hm:0<m:=by rw [hdn] at hd;simpa using hd
  cases bs with
  | nil=>rw [js] at hf;cases hf
  | cons b r=>
   cases b with
   | true=>rw [ab2 99 _ hd,hs];simp only;omega
   | false=>
    rw [ac1 99 _ hd,hs];have:=hr2 r;omega
def ir (Y:RS)(root:Int)(c:Cl)(r:List Bool):Int×RS:=
 match cp Y.R.L Y.R.N (o6 Y.R.N root) c.at_ with
 | none=>(2,Y)
 | some (n,ix)=>match Y.R.L.findIdx? (fh n ix) with
  | none=>if c.kind=1 then (3,Y) else (4,Y)
  | some p=>match Y.R.L[p]? with
   | none=>(0,Y)
   | some e=>if c.kind=1 then ey Y (o6 Y.R.N root) c p e r
    else if c.kind=5 then ((takeB Y p e r).1,(takeB Y p e r).2.1)
    else ((bd F1 Y n ix r).1,(bd F1 Y n ix r).2.1)
def rc (c:Cl):Prop:=c.kind=1\/c.kind=5\/c.kind=6
theorem ag5 {S:RS}{th:Int}{c:Cl}(bs:List Bool)(hk:rc c){t:gh}(ht:S.R.T.find? (ao th)=some t)(hs:t.state=1):
 dy S th c bs=if (ak em eh F0 S bs).2.2=false then (8,(ak em eh F0 S bs).1) else ir (ak em eh F0 S bs).1 t.root c (ak em eh F0 S bs).2.1:=by
 have hk':c.kind=1\/c.kind=5\/c.kind=6:=hk;unfold dy;rw [ht];simp only;rw [if_neg (by simp [hs]),if_neg (by omega),if_pos hk'];rfl
theorem yj {S:RS}{th:Int}{c:Cl}(hk:rc c){t:gh}(ht:S.R.T.find? (ao th)=some t)(hs:t.state=1):dy S th c []=ir (WR S) t.root c []:=by
 have h2:(ak em eh F0 S []).2=([],true):=js _ _;rw [ag5 [] hk ht hs,h2];rfl
theorem pg {S:RS}{th:Int}{c:Cl}(bs:List Bool)(ht:S.R.T.find? (ao th)=none):dy S th c bs=(1,S):=by
 unfold dy;rw [ht]
theorem ph {S:RS}{th:Int}{c:Cl}(bs:List Bool){t:gh}(ht:S.R.T.find? (ao th)=some t)(hs:¬t.state=1):dy S th c bs=(1,S):=by
 unfold dy;rw [ht];simp only;rw [if_pos hs]
theorem w6 {Y:RS}{K:KS}(h:Ag Y K)(root:Int)(c:Cl):
 (ay K.K root c.at_=none/\∀r,ir Y root c r=(2,Y))\/
 ∃n ix,ay K.K root c.at_=some ⟨n,ix⟩/\cp Y.R.L Y.R.N root c.at_=some (n,ix)/\0<=ix/\o6 Y.R.N root=root/\
  ((K.K.held ⟨n,ix⟩=none/\∀r,ir Y root c r=(if c.kind=1 then 3 else 4,Y))\/
    ∃p,∃hp:p<Y.R.L.length,Y.R.L.findIdx? (fh n ix)=some p/\Y.R.L[p].slot=⟨n,ix⟩/\(∃k,K.K.held ⟨n,ix⟩=some k)/\
     ∀r,ir Y root c r=if c.kind=1 then ey Y root c p Y.R.L[p] r else if c.kind=5 then ((takeB Y p Y.R.L[p] r).1,(takeB Y p Y.R.L[p] r).2.1) else ((bd F1 Y n ix r).1,(bd F1 Y n ix r).2.1)):=by
 have hC:=h.core;have hf:=hC.rel.find root c.at_;cases hfi:cp Y.R.L Y.R.N root c.at_ with
 | none=>
  rw [hfi] at hf;refine .inl ⟨hf,fun r=>?_⟩
  unfold ir;rw [hC.still,hfi]
 | some q=>
  obtain ⟨n,ix⟩:=q;rw [hfi] at hf;simp only [Option.map_some,pt] at hf;have hst:=a71 hfi;refine .inr ⟨n,ix,hf,rfl,(hC.found_ok hfi).1,hst,?_⟩;rcases hC.rel.idx n ix with ⟨e1,e2⟩ | ⟨p,hp,e1,e2,k,e3,e4⟩
  ·refine .inl ⟨e2,fun r=>?_⟩
   unfold ir;rw [hC.still,hfi];simp only [e1];split<;>rfl
  ·refine .inr ⟨p,hp,e1,e2,⟨k,e3⟩,fun r=>?_⟩
   unfold ir;rw [hC.still,hfi];simp only [e1,List.getElem?_eq_getElem hp,hst]
theorem ai5 {Y:RS}{K:KS}(h:Ag Y K):Y.R.L.length<=F1:=by
 have:=h.core.len;rw [bf_];omega
theorem a28 (Y:RS)(root:Int)(c:Cl)(p:Nat)(e:bo)(r:List Bool)(h8:(ey Y root c p e r).1≠8):ey Y root c p e r=ey Y root c p e []:=by
 have hn:(ax e.mark []).2.2=true:=by
  have:(ax e.mark []).2=([],true):=js _ _;rw [this]
 unfold ey at h8 ⊢;by_cases h1:e.ty≠1
 ·rw [if_pos h1,if_pos h1]
 ·rw [if_neg h1] at h8;rw [if_neg h1,if_neg h1];by_cases h2:ad_ c=false
  ·rw [if_pos h2,if_pos h2]
  ·rw [if_neg h2] at h8;rw [if_neg h2,if_neg h2];cases hf:cp Y.R.L Y.R.N root c.to with
   | none=>rfl
   | some q=>
    obtain ⟨n,ix⟩:=q;rw [hf] at h8;simp only at h8 ⊢;by_cases h3:dw Y.R.N n<ix+c.count
    ·rw [if_pos h3,if_pos h3]
    ·rw [if_neg h3] at h8;rw [if_neg h3,if_neg h3];by_cases h4:k_ Y.R.L n ix c.count.toNat=true
     ·rw [if_pos h4,if_pos h4]
     ·rw [if_neg h4] at h8;rw [if_neg h4,if_neg h4];by_cases h5:og Y.R.L p e.up=p+1
      ·rw [if_pos h5] at h8;rw [if_pos h5,if_pos h5];by_cases h6:(ax e.mark r).2.2=true
       ·have:(ax e.mark r).1=(ax e.mark []).1:=rp _ _ _ h6;rw [if_pos h6,if_pos hn,this]
       ·rw [if_neg h6] at h8;exact absurd rfl h8
      ·rw [if_neg h5,if_neg h5]
theorem bn3 {Y:RS}{K:KS}(h:Ag Y K)(root:Int)(c:Cl)(r:List Bool)(h8:(ir Y root c r).1≠8):ir Y root c r=ir Y root c []:=by
 rcases w6 h root c with ⟨_,e⟩ | ⟨n,ix,_,_,hi,_,⟨_,e⟩ | ⟨p,hp,_,_,_,e⟩⟩
 ·rw [e,e]
 ·rw [e,e]
 ·rw [e] at h8;rw [e,e];by_cases h1:c.kind=1
  ·rw [if_pos h1] at h8;rw [if_pos h1,if_pos h1];exact a28 _ _ _ _ _ _ h8
  ·rw [if_neg h1] at h8;rw [if_neg h1,if_neg h1];by_cases h5:c.kind=5
   ·rw [if_pos h5] at h8;rw [if_pos h5,if_pos h5];rcases (sg h hp r).1 with ⟨q1,q2⟩ | ⟨q1,_⟩
    ·rw [q1,q2,sl]
    ·exact absurd q1 h8
   ·rw [if_neg h5] at h8;rw [if_neg h5,if_neg h5];obtain ⟨z0,_,_,z3⟩:=mb n ix hi F1 r h (ai5 h);rcases z3 with ⟨q1,q2⟩ | ⟨q1,_⟩
    ·rw [q1,q2,z0]
    ·exact absurd q1 h8
theorem bn0 {S:RS}{K:KS}(h:Ag S K)(th:Int){c:Cl}(hk:rc c)(bs:List Bool)(h8:(dy S th c bs).1≠8):dy S th c bs=dy S th c []:=by
 cases ht:S.R.T.find? (ao th) with
 | none=>rw [pg bs ht,pg [] ht]
 | some t=>
  by_cases hs:t.state=1
  ·rw [yj hk ht hs];rw [ag5 bs hk ht hs] at h8 ⊢;cases hw:(ak em eh F0 S bs).2.2 with
   | false=>rw [if_pos hw] at h8;exact absurd rfl h8
   | true=>
    rw [hw,if_neg (by decide)] at h8;rw [if_neg (by decide)];have hY:(ak em eh F0 S bs).1=WR S:=rp _ _ _ hw;rw [hY] at h8 ⊢;exact bn3 h.wr t.root c _ h8
  ·rw [ph bs ht hs,ph [] ht hs]
def zg (th:Int)(c:Cl)(S:RS):Nat:=
 match S.R.T.find? (ao th) with
 | none=>0
 | some t=>match cp S.R.L S.R.N t.root c.at_ with
  | none=>0
  | some (n,ix)=>match S.R.L.findIdx? (fh n ix) with
   | none=>0
   | some p=>match S.R.L[p]? with
    | none=>0
    | some e=>((e.mark+15) / 16).toNat
def ay2 (th:Int)(c:Cl)(S:RS):Nat:=if c.kind=1 then (if S.D=[] then zg th c S else 64+mu S) else mu S
theorem Ag.mark {S:RS}{K:KS}(h:Ag S K){e:bo}(he:e∈S.R.L):0<=e.mark/\e.mark<=1024:=by
 obtain ⟨k,hk,ht⟩:=h.core.rel.cap e he;have hm:k.mark=e.mark:=by
  have:=congrArg (fun x=>x.2.2.2.2.2) ht;have h2:k.told.2.2.2.2.2=k.mark:=by cases k<;>rfl
  have h3:e.told.2.2.2.2.2=e.mark:=rfl;rw [<- h2,<- h3];exact this
 obtain ⟨_,_,h2,_,h4,h5⟩:=h.core.cap _ _ hk;have:pw k.bits.toNat<=pw 10:=zq (by omega);have e10:pw 10=1024:=by decide
 omega
theorem Ag.markR_le {S:RS}{K:KS}(h:Ag S K)(th:Int)(c:Cl):zg th c S<=64:=by
 unfold zg;split
 ·omega
 ·split
  ·omega
  ·split
   ·omega
   ·split
    ·omega
    ·rename_i e he;have:=h.mark (List.mem_of_getElem? he);omega
theorem Ag.pot_le {S:RS}{K:KS}(h:Ag S K)(th:Int)(c:Cl):ay2 th c S<=64+mu S:=by
 have:=h.markR_le th c;unfold ay2;split
 ·split<;>omega
 ·omega
def vw (th:Int)(c:Cl)(S S':RS):Prop:=
 (dy S' th c []).1=1\/(dy S' th c []).1=2\/((dy S' th c []).2=(dy S th c []).2/\((dy S' th c []).1=(dy S th c []).1\/(c.kind=5/\(dy S' th c []).1=4/\(dy S th c []).1=0)))
theorem vw.refl (th:Int)(c:Cl)(S:RS):vw th c S S:=.inr (.inr ⟨rfl,.inl rfl⟩)
theorem vw.trans {th:Int}{c:Cl}{S S1 S2:RS}(h:vw th c S S1)(g:vw th c S1 S2):vw th c S S2:=by
 unfold vw at *
 rcases g with g | g | ⟨g1,g2⟩
 ·exact .inl g
 ·exact .inr (.inl g)
 ·rcases h with h | h | ⟨h1,h2⟩
  ·rcases g2 with g2 | ⟨_,_,g3⟩
   ·exact .inl (g2.trans h)
   ·rw [h] at g3;exact absurd g3 (by decide)
  ·rcases g2 with g2 | ⟨_,_,g3⟩
   ·exact .inr (.inl (g2.trans h))
   ·rw [h] at g3;exact absurd g3 (by decide)
  ·refine .inr (.inr ⟨g1.trans h1,?_⟩);rcases g2 with g2 | ⟨k5,g2,g3⟩
   ·rcases h2 with h2 | ⟨k5,h2,h3⟩
    ·exact .inl (g2.trans h2)
    ·exact .inr ⟨k5,g2.trans h2,h3⟩
   ·rcases h2 with h2 | ⟨_,h2,_⟩
    ·exact .inr ⟨k5,g2,h2.symm.trans g3⟩
    ·rw [g3] at h2;exact absurd h2 (by decide)
theorem b49 {Y:RS}{K:KS}(h:Ag Y K)(root:Int)(c:Cl)(h1:¬c.kind=1){n ix:Int}(hf:ay K.K root c.at_=some ⟨n,ix⟩){p:Nat}(hp:p<Y.R.L.length)(hs:Y.R.L[p].slot=⟨n,ix⟩)(r:List Bool)(h8:(takeB Y p Y.R.L[p] r).1=8):
 (ir (WR (takeB Y p Y.R.L[p] r).2.1) root c []).1=2\/ir (WR (takeB Y p Y.R.L[p] r).2.1) root c []=(4,WR (jg Y p Y.R.L[p])):=by
 obtain ⟨_,_,g3,_,_⟩:=h.takeB hp r;have hA:=g3.wr;rw [hs] at hA;have hl1:mh (d_ K ⟨n,ix⟩) (co K ⟨n,ix⟩ r).2.1:=by
  unfold co;split
  ·exact mh.refl _
  ·exact kg _ _ _
 have hl2:=hl1.trans (kg F0 (co K ⟨n,ix⟩ r).2.1 []);have hl3:=(p7 K ⟨n,ix⟩ r).trans (kg F0 (co K ⟨n,ix⟩ r).2.1 []);have hn3:=(an7 K ⟨n,ix⟩ r).trans (zl F0 (co K ⟨n,ix⟩ r).2.1 []);have hWR:WR (takeB Y p Y.R.L[p] r).2.1=WR (jg Y p Y.R.L[p]):=by
  rcases (sg h hp r).1 with ⟨q1,_⟩ | ⟨_,q2⟩
  ·rw [q1] at h8;exact absurd h8 (by decide)
  ·exact q2
 generalize (ak az bf F0 (co K ⟨n,ix⟩ r).2.1 []).1=Z at *
 rcases w6 hA root c with ⟨_,e⟩ | ⟨n',ix',hf',_,_,_,⟨_,e⟩ | ⟨p',_,_,_,⟨k,hk⟩,_⟩⟩
 ·exact .inl (by rw [e])
 ·refine .inr ?_;rw [e,if_neg h1,hWR]
 ·have:=ab9 hl3 hn3 hf';rw [hf] at this;cases this
  have:=hl2 _ _ hk;exfalso
  cases hc:K.K.held ⟨n,ix⟩ with
  | none=>rw [kw hc,hc] at this;cases this
  | some c0=>rw [(a06 hc).2,ai] at this;cases this
theorem b35 {Y:RS}{K:KS}(h:Ag Y K)(root:Int)(c:Cl)(h1:¬c.kind=1)(h5:¬c.kind=5){n ix:Int}(hi:0<=ix)(hf:ay K.K root c.at_=some ⟨n,ix⟩){k0:KCap}(hh:K.K.held ⟨n,ix⟩=some k0)(r:List Bool)(h8:(bd F1 Y n ix r).1=8):
 (ir (WR (bd F1 Y n ix r).2.1) root c []).1=2\/ir (WR (bd F1 Y n ix r).2.1) root c []=((bd F1 Y n ix []).1,(bd F1 Y n ix []).2.1):=by
 have g3:=(Ag.revoke F1 n ix r h hi).2.1;have hA:=g3.wr;have hcut:Cut ⟨n,ix⟩ K (ak az bf F0 (bw F1 K ⟨n,ix⟩ r).2.1 []).1:=(ae3 ⟨n,ix⟩ hi F1 r h).trans (sf _ F0 g3 []);have hn3:=(ar_ F1 K ⟨n,ix⟩ r).trans (zl F0 (bw F1 K ⟨n,ix⟩ r).2.1 []);have hres:bd F1 (WR (bd F1 Y n ix r).2.1) n ix []=bd F1 Y n ix []:=by
  obtain ⟨_,_,_,z3⟩:=mb n ix hi F1 r h (ai5 h);rcases z3 with ⟨q1,_⟩ | ⟨_,_,q2⟩
  ·rw [q1] at h8;exact absurd h8 (by decide)
  ·exact q2
 generalize (ak az bf F0 (bw F1 K ⟨n,ix⟩ r).2.1 []).1=Z at *
 rcases w6 hA root c with ⟨_,e⟩ | ⟨n',ix',hf',_,_,_,⟨hno,e⟩ | ⟨p',_,_,_,_,e⟩⟩
 ·exact .inl (by rw [e])
 ·have he:=ab9 hcut.less hn3 hf';rw [hf] at he;cases he
  exfalso
  rcases hcut.gone _ _ hh hno with hu | hu
  ·exact h.up_ne hh hu
  ·exact hA.nodeThere (s:=⟨n,ix⟩) (bk4 hf') hu
 ·have he:=ab9 hcut.less hn3 hf';rw [hf] at he;cases he
  refine .inr ?_;rw [e,if_neg h1,if_neg h5,hres]
theorem b2_ {Y:RS}{K:KS}(h:Ag Y K)(root:Int)(c:Cl)(h1:c.kind=1){n ix:Int}(hf:cp Y.R.L Y.R.N root c.at_=some (n,ix))(hst:o6 Y.R.N root=root){p:Nat}(hp:p<Y.R.L.length)(hidx:Y.R.L.findIdx? (fh n ix)=some p)(r:List Bool)(h8:(ey Y root c p Y.R.L[p] r).1=8)(hc8:∀S' e' n' ix',(xg S' root c p e' n' ix').1≠8):
 ∃m',(ey Y root c p Y.R.L[p] r).2=fc Y p Y.R.L[p] m'/\(m'+15) / 16<(Y.R.L[p].mark+15) / 16/\0<=m'/\ir (fc Y p Y.R.L[p] m') root c []=ey Y root c p Y.R.L[p] []:=by
 have hm:=h.mark (List.getElem_mem hp);have hL:Y.R.L[p]?=some Y.R.L[p]:=List.getElem?_eq_getElem hp;generalize he:Y.R.L[p]=e at *
 have hn:∀m,(ax m []).2.2=true:=by
  intro m;have:(ax m []).2=([],true):=js _ _;rw [this]
 have key:∀m',ir (fc Y p e m') root c []=ey (fc Y p e m') root c p {e with mark:=m'} []:=by
  intro m';unfold ir fc;simp only;rw [ac_ (e':={e with mark:=m'}) hL rfl rfl rfl rfl,hst,hf];simp only;rw [vm Y.R.L p e {e with mark:=m'} hL rfl rfl,hidx];simp only [List.getElem?_set_self hp,if_pos h1]
 unfold ey at h8 ⊢;by_cases c1:e.ty≠1
 ·rw [if_pos c1] at h8;exact absurd (show (3:Int)=8 from h8) (by decide)
 ·rw [if_neg c1] at h8 ⊢;by_cases c2:ad_ c=false
  ·rw [if_pos c2] at h8;exact absurd (show (7:Int)=8 from h8) (by decide)
  ·rw [if_neg c2] at h8 ⊢;cases hfi:cp Y.R.L Y.R.N root c.to with
   | none=>rw [hfi] at h8;exact absurd (show (2:Int)=8 from h8) (by decide)
   | some q=>
    obtain ⟨n2,ix2⟩:=q;rw [hfi] at h8;simp only at h8 ⊢;by_cases c3:dw Y.R.N n2<ix2+c.count
    ·rw [if_pos c3] at h8;exact absurd (show (2:Int)=8 from h8) (by decide)
    ·rw [if_neg c3] at h8 ⊢;by_cases c4:k_ Y.R.L n2 ix2 c.count.toNat=true
     ·rw [if_pos c4] at h8;exact absurd (show (4:Int)=8 from h8) (by decide)
     ·rw [if_neg c4] at h8 ⊢;by_cases c5:og Y.R.L p e.up=p+1
      ·rw [if_pos c5] at h8 ⊢;by_cases c6:(ax e.mark r).2.2=true
       ·rw [if_pos c6] at h8;exact absurd h8 (hc8 _ _ _ _)
       ·rw [if_neg c6];obtain ⟨q1,q2,q3,q4⟩:=bm3 e.mark r hm.1 (by omega) (by simpa using c6);refine ⟨_,rfl,q2,q3,?_⟩;rw [if_neg c3,if_neg c4,if_pos c5,if_pos (hn _),key];have r1:=(i_ 100 (ax e.mark r).1 [] q3).2;have r1:(ax (ax e.mark r).1 []).1<=(ax e.mark r).1:=r1;have htwo:=bm5 Y p e (ax e.mark r).1 (ax (ax e.mark r).1 []).1 r1 q4;unfold ey;simp only;rw [if_neg c1,if_neg c2];have hfi2:cp (fc Y p e (ax e.mark r).1).R.L (fc Y p e (ax e.mark r).1).R.N root c.to=some (n2,ix2):=by
         show cp (Y.R.L.set p _) Y.R.N root c.to=_;rw [ac_ (e':={e with mark:=(ax e.mark r).1}) hL rfl rfl rfl rfl,hfi]
        have hfu:k_ (fc Y p e (ax e.mark r).1).R.L n2 ix2 c.count.toNat=k_ Y.R.L n2 ix2 c.count.toNat:=bu7 (e':={e with mark:=(ax e.mark r).1}) hL rfl rfl n2 ix2 _;have hen:og (fc Y p e (ax e.mark r).1).R.L p e.up=og Y.R.L p e.up:=bt4 Y.R.L p _ e.up;have hsl:(fc Y p e (ax e.mark r).1).R.N=Y.R.N:=rfl;rw [hfi2];simp only;rw [hsl,hfu,hen,if_neg c3,if_neg c4,if_pos c5,if_pos (hn _),htwo,q1,if_neg c1,if_neg c2]
      ·rw [if_neg c5] at h8;exact absurd h8 (hc8 _ _ _ _)
theorem ad1 (S:RS)(root:Int)(c:Cl)(p:Nat)(e:bo)(n ix:Int):(xg S root c p e n ix).1≠8:=by
 unfold xg xz;split<;>simp
theorem b08 {S S':RS}{K K':KS}(h:Ag S K)(h':Ag S' K')(th:Int){c:Cl}(hk:rc c)(htl:TL S.R.T S'.R.T){t:gh}(ht:S.R.T.find? (ao th)=some t):
 (dy S' th c []).1=1\/(dy S' th c []).1=2\/dy S' th c []=ir (WR S') t.root c []:=by
 cases ht':S'.R.T.find? (ao th) with
 | none=>rw [pg [] ht'];exact .inl rfl
 | some t'=>
  by_cases hs:t'.state=1
  ·rw [yj hk ht' hs];rcases htl.find h.core.td ht' ht with e | e
   ·rw [e];exact .inr (.inr rfl)
   ·refine .inr (.inl ?_);rw [e];unfold ir;rw [h'.wr.noRoot]
  ·rw [ph [] ht' hs];exact .inl rfl
theorem vw.of_tail {S S':RS}{th:Int}{c:Cl}{t:gh}(hD:dy S th c []=ir (WR S) t.root c [])
 (ho:(dy S' th c []).1=1\/(dy S' th c []).1=2\/dy S' th c []=ir (WR S') t.root c [])
 (hg:(ir (WR S') t.root c []).1=2\/((ir (WR S') t.root c []).2=(ir (WR S) t.root c []).2/\((ir (WR S') t.root c []).1=(ir (WR S) t.root c []).1\/(c.kind=5/\(ir (WR S') t.root c []).1=4/\(ir (WR S) t.root c []).1=0)))):vw th c S S':=by
 unfold vw;rcases ho with e | e | e
 ·exact .inl e
 ·exact .inr (.inl e)
 ·rw [e,hD];rcases hg with g | g
  ·exact .inr (.inl g)
  ·exact .inr (.inr g)
theorem b27 {S:RS}{K:KS}(h:Ag S K)(th:Int){c:Cl}(hk:rc c)(bs:List Bool)(h8:(dy S th c bs).1=8):
 vw th c S (dy S th c bs).2/\ay2 th c (dy S th c bs).2+1<=ay2 th c S:=by
 have hk':c.kind=1\/c.kind=5\/c.kind=6:=hk;cases ht:S.R.T.find? (ao th) with
 | none=>rw [pg bs ht] at h8;exact absurd (show (1:Int)=8 from h8) (by decide)
 | some t=>
  by_cases hs:t.state=1
  ·have hA':=(ai1 h th c bs (by omega)).2.1;have hDS:=yj hk ht hs;rw [ag5 bs hk ht hs] at h8 hA' ⊢;cases hw:(ak em eh F0 S bs).2.2 with
   | false=>
    rw [hw,if_pos rfl] at hA';rw [if_pos rfl];simp only at hA' ⊢;have hWR:=h.wr_pre bs hw;have hmu:=(rn F0 bs h).2 hw;refine ⟨vw.of_tail hDS (b08 h hA' th hk (yy F0 S bs) ht) (.inr ⟨by rw [hWR],.inl (by rw [hWR])⟩),?_⟩;have hne:¬S.D=[]:=by
     intro e;rw [iy F0 bs (sk.2 e)] at hw;cases hw
    have hp:=hA'.pot_le th c;generalize (ak em eh F0 S bs).1=S1 at *
    unfold ay2 at hp ⊢;by_cases k1:c.kind=1
    ·rw [if_pos k1] at hp ⊢;rw [if_pos k1,if_neg hne];omega
    ·rw [if_neg k1,if_neg k1];exact hmu
   | true=>
    have hY:(ak em eh F0 S bs).1=WR S:=rp _ _ _ hw;rw [hw,if_neg (by decide),hY] at h8 hA';rw [if_neg (by decide),hY];have hmuY:mu (WR S)<=mu S:=(rn F0 [] h).1;have hTY:TL S.R.T (WR S).R.T:=yy F0 S [];have hYA:=h.wr;have hYD:=h.wrD;generalize (ak em eh F0 S bs).2.1=r at *
    generalize (ak az bf F0 K []).1=YK at *
    rcases w6 hYA t.root c with ⟨_,e⟩ | ⟨n,ix,hf,hfi,hi,hst,⟨_,e⟩ | ⟨p,hp,hidx,hsl,⟨k0,hh⟩,e⟩⟩
    ·rw [e] at h8;exact absurd (show (2:Int)=8 from h8) (by decide)
    ·rw [e] at h8;simp only at h8;split at h8<;>exact absurd h8 (by decide)
    ·have e0:=e [];rw [e r] at h8 hA' ⊢;by_cases k1:c.kind=1
     ·rw [if_pos k1] at h8 hA' ⊢;rw [if_pos k1] at e0;obtain ⟨m',g1,g2,g3,g4⟩:=b2_ hYA t.root c k1 hfi hst hp hidx r h8 (fun S' e' n' ix'=>ad1 S' t.root c p e' n' ix');rw [g1] at hA' ⊢;have hRD:(fc (WR S) p (WR S).R.L[p] m').D=[]:=hYD;have hW2:WR (fc (WR S) p (WR S).R.L[p] m')=fc (WR S) p (WR S).R.L[p] m':=bg0 hRD;refine ⟨vw.of_tail hDS (b08 h hA' th hk hTY ht) (.inr ?_),?_⟩
      ·rw [hW2,g4,e0];exact ⟨rfl,.inl rfl⟩
      ·have hle:=hA'.markR_le th c;unfold ay2;rw [if_pos k1,if_pos k1,if_pos hRD];by_cases hSD:S.D=[]
       ·rw [if_pos hSD];have hWS:WR S=S:=bg0 hSD;have hL:(WR S).R.L[p]?=some (WR S).R.L[p]:=List.getElem?_eq_getElem hp;have e1:zg th c (fc (WR S) p (WR S).R.L[p] m')=((m'+15) / 16).toNat:=by
         have hT:(fc (WR S) p (WR S).R.L[p] m').R.T.find? (ao th)=some t:=by
          show (WR S).R.T.find? (ao th)=some t;rw [hWS];exact ht
         unfold zg;rw [hT];simp only;have f1:cp (fc (WR S) p (WR S).R.L[p] m').R.L (fc (WR S) p (WR S).R.L[p] m').R.N t.root c.at_=some (n,ix):=by
          show cp ((WR S).R.L.set p _) (WR S).R.N t.root c.at_=_;rw [ac_ (e':={(WR S).R.L[p] with mark:=m'}) hL rfl rfl rfl rfl,hfi]
         have f2:(fc (WR S) p (WR S).R.L[p] m').R.L.findIdx? (fh n ix)=some p:=by
          show ((WR S).R.L.set p _).findIdx? (fh n ix)=_;rw [vm (WR S).R.L p (WR S).R.L[p] {(WR S).R.L[p] with mark:=m'} hL rfl rfl,hidx]
         have f3:(fc (WR S) p (WR S).R.L[p] m').R.L[p]?=some {(WR S).R.L[p] with mark:=m'}:=by
          show ((WR S).R.L.set p _)[p]?=_;rw [List.getElem?_set_self hp]
         rw [f1];simp only;rw [f2];simp only;rw [f3]
        have e2:zg th c (WR S)=(((WR S).R.L[p].mark+15) / 16).toNat:=by
         have hT:(WR S).R.T.find? (ao th)=some t:=by rw [hWS];exact ht
         unfold zg;rw [hT];simp only;rw [hfi];simp only;rw [hidx];simp only;rw [hL]
        have e4:zg th c S=zg th c (WR S):=by rw [hWS]
        rw [e1,e4,e2];omega
       ·rw [if_neg hSD];have:1<=mu S:=by
         obtain ⟨d,D,hd⟩:=List.exists_cons_of_ne_nil hSD;unfold mu muD;rw [hd];simp only [List.map_cons,List.sum_cons];omega
        omega
     ·rw [if_neg k1] at h8 hA' ⊢;rw [if_neg k1] at e0;by_cases k5:c.kind=5
      ·rw [if_pos k5] at h8 hA' ⊢;rw [if_pos k5] at e0;simp only at h8 hA' ⊢;have hmu:=(sg hYA hp r).2;refine ⟨vw.of_tail hDS (b08 h hA' th hk (hTY.trans (ao2 _ _ _ _)) ht) ?_,by unfold ay2;rw [if_neg k1,if_neg k1];omega⟩;rcases b49 hYA t.root c k1 hf hp hsl r h8 with g | g
       ·exact .inl g
       ·refine .inr ?_;rw [g,e0,sl];exact ⟨rfl,.inr ⟨k5,rfl,rfl⟩⟩
      ·rw [if_neg k5] at h8 hA' ⊢;rw [if_neg k5] at e0;simp only at h8 hA' ⊢;have hmu:mu (bd F1 (WR S) n ix r).2.1+1<=mu (WR S):=by
        obtain ⟨_,_,_,z3⟩:=mb n ix hi F1 r hYA (ai5 hYA);rcases z3 with ⟨q1,_⟩ | ⟨_,q2,_⟩
        ·rw [q1] at h8;exact absurd h8 (by decide)
        ·exact q2
       refine ⟨vw.of_tail hDS (b08 h hA' th hk (hTY.trans (aq2 n ix F1 _ _)) ht) ?_,by unfold ay2;rw [if_neg k1,if_neg k1];omega⟩;rcases b35 hYA t.root c k1 k5 hi hf hh r h8 with g | g
       ·exact .inl g
       ·refine .inr ?_;rw [g,e0];exact ⟨rfl,.inl rfl⟩
  ·rw [ph bs ht hs] at h8;exact absurd (show (1:Int)=8 from h8) (by decide)
structure Rsm (th:Int)(c:Cl)(S0 S:RS)(n:Nat):Prop where
 good:vw th c S0 S
 pot:n+ay2 th c S<=64+mu S0
theorem Rsm.start {S:RS}{K:KS}(h:Ag S K)(th:Int)(c:Cl):Rsm th c S S 0:=⟨vw.refl th c S,by have:=h.pot_le th c;omega⟩
theorem Rsm.next {S0 S:RS}{K:KS}{th:Int}{c:Cl}{n:Nat}(hr:Rsm th c S0 S n)(h:Ag S K)(hk:rc c)(bs:List Bool)(h8:(dy S th c bs).1=8):Rsm th c S0 (dy S th c bs).2 (n+1):=by
 obtain ⟨g1,g2⟩:=b27 h th hk bs h8;have:=hr.pot;exact ⟨hr.good.trans g1,by omega⟩
theorem Rsm.last {S0 S:RS}{K:KS}{th:Int}{c:Cl}{n:Nat}(hr:Rsm th c S0 S n)(h:Ag S K)(hk:rc c)(bs:List Bool)(h8:(dy S th c bs).1≠8):
 (dy S th c bs).1=1\/(dy S th c bs).1=2\/((dy S th c bs).2=(dy S0 th c []).2/\((dy S th c bs).1=(dy S0 th c []).1\/(c.kind=5/\(dy S th c bs).1=4/\(dy S0 th c []).1=0))):=by
 rw [bn0 h th hk bs h8];exact hr.good
theorem ar9 (L:List bo)(i:Nat)(up:Int)(e:bo):(uf L i up e).length=L.length+1:=by
 unfold uf;simp only [List.length_append,List.length_cons,List.length_take,List.length_drop];omega
theorem a74 (R1:jh)(root:Int)(p:Nat)(up n ix:Int)(c:Cl)(s:Int):∀k,(xc R1 root p up n ix c s k).L.length=R1.L.length+k
 | 0=>rfl
 | k+1=>by
  show (uf (xc R1 root p up n ix c s k).L p up _).length=_;rw [ar9,a74 R1 root p up n ix c s k];omega
theorem bm_ (R:jh)(root:Int)(c:Cl)(p:Nat)(e:bo):(fw R root c p e).2.length<=R.L.length+1:=by
 unfold fw;repeat' split
 all_goals first | exact Nat.le_succ _ | (simp only [List.length_set];omega) | (rw [ar9];omega)
theorem at1 (S:RS)(root:Int)(c:Cl)(p:Nat)(e:bo)(n ix:Int)(hc:c.count<=3):mu (xg S root c p e n ix).2<=mu S+54:=by
 unfold xg xz;split
 ·exact Nat.le_add_right _ _
 ·unfold mu;simp only;rw [a74,List.length_set];omega
theorem a70 (S:RS)(p:Nat)(e:bo)(m:Int):mu (fc S p e m)=mu S:=by
 unfold fc mu;simp only [List.length_set]
theorem bj1 (Y:RS)(root:Int)(c:Cl)(p:Nat)(e:bo)(r:List Bool)(hc:c.count<=3):mu (ey Y root c p e r).2<=mu Y+54:=by
 unfold ey;split
 ·exact Nat.le_add_right _ _
 ·split
  ·exact Nat.le_add_right _ _
  ·split
   ·exact Nat.le_add_right _ _
   ·split
    ·exact Nat.le_add_right _ _
    ·split
     ·exact Nat.le_add_right _ _
     ·split
      ·split
       ·refine Nat.le_trans (at1 _ _ _ _ _ _ _ hc) ?_;rw [a70];exact Nat.le_refl _
       ·show mu (fc _ _ _ _)<=_;rw [a70];omega
      ·exact at1 _ _ _ _ _ _ _ hc
theorem bz8 {Y:RS}{K:KS}(h:Ag Y K)(root:Int)(c:Cl)(r:List Bool)(hc:c.count<=3):mu (ir Y root c r).2<=mu Y+54:=by
 rcases w6 h root c with ⟨_,e⟩ | ⟨n,ix,_,_,hi,_,⟨_,e⟩ | ⟨p,hp,_,_,_,e⟩⟩
 ·rw [e];exact Nat.le_add_right _ _
 ·rw [e];exact Nat.le_add_right _ _
 ·rw [e];split
  ·exact bj1 _ _ _ _ _ _ hc
  ·split
   ·have:=(sg h hp r).2;simp only;omega
   ·have:=(mb n ix hi F1 r h (ai5 h)).2.1;simp only;omega
theorem b43 (S:RS)(b:Int)(c:Cl):mu (ao9 S b c).2.2=mu S:=by
 have hT:∀e,mu (zx S b c e).2=mu S:=by
  intro e;unfold zx;repeat' split
  all_goals rfl
 have hW:∀e,mu (ao0 S c e).2.2=mu S:=by
  intro e;unfold ao0;repeat' split
  all_goals rfl
 have hG:∀root e,mu (ar8 S root c e).2=mu S:=by
  intro root e;unfold ar8;repeat' split
  all_goals rfl
 unfold ao9;repeat' split
 all_goals first | rfl | exact hT _ | exact hW _ | exact hG _ _
theorem b57 {S:RS}{K:KS}(h:Ag S K)(th:Int)(c:Cl)(bs:List Bool)(hc:c.count<=3):mu (ew S th c bs).2.2<=mu S+54:=by
 unfold ew;split
 ·rw [b43];exact Nat.le_add_right _ _
 ·show mu (dy S th c bs).2<=_;cases ht:S.R.T.find? (ao th) with
  | none=>rw [pg bs ht];exact Nat.le_add_right _ _
  | some t=>
   by_cases hs:t.state=1
   ·by_cases hk:rc c
    ·rw [ag5 bs hk ht hs];have h1:=(rn F0 bs h).1;split
     ·simp only;omega
     ·have:=bz8 (Ag.work F0 bs h).2 t.root c (ak em eh F0 S bs).2.1 hc;omega
    ·unfold dy;rw [ht];simp only;rw [if_neg (by simp [hs])];split
     ·exact Nat.le_add_right _ _
     ·rw [if_neg (show ¬(c.kind=1\/c.kind=5\/c.kind=6) from hk)];split
      ·exact Nat.le_add_right _ _
      ·split
       ·exact Nat.le_add_right _ _
       ·split
        ·exact Nat.le_add_right _ _
        ·unfold mu;simp only;refine Nat.le_trans (Nat.add_le_add_right (Nat.mul_le_mul_left 18 (bm_ S.R t.root c _ _)) _) ?_;omega
   ·rw [ph bs ht hs];exact Nat.le_add_right _ _
end Go.Proofs.YtdpjgflemddekaaDoor

/- Plain lists and integers for the document's answer, and how its lists lie in memory. Nothing of the program's text. -/
import Derived.WalkKit
import Derived.WalkSpells
import Derived.WalkLawsBesides
namespace Go.Proofs.YtdpjgflemddekaaGreatDoor
open Go.RowKit
structure aw where
 node:Int
 index:Int
 ty:Int
 base:Int
 bits:Int
 rights:Int
 badge:Int
 mark:Int
 up:Int
def aw.vals (e:aw):List Value:=
 [.int .i64 e.node,.int .i64 e.index,.int .i64 e.ty,.int .i64 e.base,.int .i64 e.bits,.int .i64 e.rights,.int .i64 e.badge,.int .i64 e.mark,.int .i64 e.up]
def gn (L:List aw):List Value:=L.flatMap aw.vals
structure pp where
 base:Int
 bits:Int
def pp.vals (e:pp):List Value:=[.int .i64 e.base,.int .i64 e.bits]
def ap6 (L:List pp):List Value:=L.flatMap pp.vals
structure ej where
 base:Int
 state:Int
 root:Int
 value:Int
 badge:Int
 err:Int
def ej.vals (e:ej):List Value:=
 [.int .i64 e.base,.int .i64 e.state,.int .i64 e.root,.int .i64 e.value,.int .i64 e.badge,.int .i64 e.err]
def xz (L:List ej):List Value:=L.flatMap ej.vals
theorem j8 {α:Type}(f:α->List Value)(k:Nat)(hk:∀a,(f a).length=k):
 ∀(L:List α) (i j:Nat) (hi:i<L.length),j<k->(L.flatMap f)[i*k+j]?=(f L[i])[j]?
 | [],i,j,hi,_=>absurd hi (by simp)
 | a :: L,0,j,_,hj=>by
  have:=hk a;simp only [List.flatMap_cons,Nat.zero_mul,Nat.zero_add,List.getElem_cons_zero];exact List.getElem?_append_left (by omega)
 | a :: L,i+1,j,hi,hj=>by
  have h1:=hk a;simp only [List.flatMap_cons,List.getElem_cons_succ];have e:(i+1)*k+j=(f a).length+(i*k+j):=by rw [h1,Nat.add_mul];omega
  rw [e,List.getElem?_append_right (by omega)];have:(f a).length+(i*k+j)-(f a).length=i*k+j:=by omega
  rw [this];exact j8 f k hk L i j (by simpa using hi) hj
theorem n7 {α:Type}(f:α->List Value)(k:Nat)(hk:∀a,(f a).length=k):∀(L:List α),(L.flatMap f).length=L.length*k
 | []=>by simp
 | a :: L=>by simp [hk a,n7 f k hk L,Nat.add_mul];omega
def sh {α:Type}(w:World)(f:α->List Value)(k:Nat)(v:Value)(L:List α):Prop:=
 ∃A cap,v=.slice A L.length cap/\(0<L.length->∃g,A=some ⟨g,0,none⟩/\
  ∀i (hi:i<L.length) j x,(f L[i])[j]?=some x->w.cell? ⟨g,i*k+j,none⟩=some x)
theorem bm {α:Type}{w:World}{f:α->List Value}{k:Nat}(hk:∀a,(f a).length=k){b:Nat}{t:TypeId}{v:Value}{L:List α}
 (h:w.ownsRow b t k v L.length (L.flatMap f)):sh w f k v L:=by
 rcases h.2 with ⟨rfl,hn⟩ | ⟨g,cap,cur,rfl,hb,hg,hnc,hcm,hcs,ht⟩
 ·refine ⟨none,0,by rw [hn],fun h0=>by omega⟩
 ·refine ⟨some ⟨g,0,none⟩,cap,rfl,fun _=>⟨g,rfl,fun i hi j x hx=>?_⟩⟩
  have hj:j<k:=by
   have:=(List.getElem?_eq_some_iff.1 hx).1;rw [hk] at this;exact this
  have hx':=j8 f k hk L i j hi hj;rw [hx] at hx';have:=h.cells (g:=g) rfl (i*k+j) x hx';have hadd:(⟨g,0,none⟩:Addr).add (i*k+j)=⟨g,i*k+j,none⟩:=by unfold Addr.add;split<;>simp_all
  rwa [hadd] at this
theorem aw.vals_len (a:aw):a.vals.length=9:=rfl
theorem pp.vals_len (a:pp):a.vals.length=2:=rfl
theorem ej.vals_len (a:ej):a.vals.length=6:=rfl
structure a75 (w:World)(g o:Nat)(e:aw):Prop where
 c0:w.cell? ⟨g,o,none⟩=some (.int .i64 e.node)
 c1:w.cell? ⟨g,o+1,none⟩=some (.int .i64 e.index)
 c2:w.cell? ⟨g,o+2,none⟩=some (.int .i64 e.ty)
 c3:w.cell? ⟨g,o+3,none⟩=some (.int .i64 e.base)
 c4:w.cell? ⟨g,o+4,none⟩=some (.int .i64 e.bits)
 c5:w.cell? ⟨g,o+5,none⟩=some (.int .i64 e.rights)
 c6:w.cell? ⟨g,o+6,none⟩=some (.int .i64 e.badge)
 c7:w.cell? ⟨g,o+7,none⟩=some (.int .i64 e.mark)
 c8:w.cell? ⟨g,o+8,none⟩=some (.int .i64 e.up)
theorem aa0 {w:World}{g:Nat}{L:List aw}(h:∀i (hi:i<L.length) j x,(L[i].vals)[j]?=some x->w.cell? ⟨g,i*9+j,none⟩=some x)(i:Nat)(hi:i<L.length):a75 w g (i*9) L[i]:=
 ⟨h i hi 0 _ rfl,h i hi 1 _ rfl,h i hi 2 _ rfl,h i hi 3 _ rfl,h i hi 4 _ rfl,h i hi 5 _ rfl,h i hi 6 _ rfl,h i hi 7 _ rfl,h i hi 8 _ rfl⟩
structure b84 (w:World)(g o:Nat)(e:pp):Prop where
 c0:w.cell? ⟨g,o,none⟩=some (.int .i64 e.base)
 c1:w.cell? ⟨g,o+1,none⟩=some (.int .i64 e.bits)
theorem bv7 {w:World}{g:Nat}{L:List pp}(h:∀i (hi:i<L.length) j x,(L[i].vals)[j]?=some x->w.cell? ⟨g,i*2+j,none⟩=some x)(i:Nat)(hi:i<L.length):b84 w g (i*2) L[i]:=
 ⟨h i hi 0 _ rfl,h i hi 1 _ rfl⟩
structure b46 (w:World)(g o:Nat)(e:ej):Prop where
 c0:w.cell? ⟨g,o,none⟩=some (.int .i64 e.base)
 c1:w.cell? ⟨g,o+1,none⟩=some (.int .i64 e.state)
 c2:w.cell? ⟨g,o+2,none⟩=some (.int .i64 e.root)
 c3:w.cell? ⟨g,o+3,none⟩=some (.int .i64 e.value)
 c4:w.cell? ⟨g,o+4,none⟩=some (.int .i64 e.badge)
 c5:w.cell? ⟨g,o+5,none⟩=some (.int .i64 e.err)
theorem bt6 {w:World}{g:Nat}{L:List ej}(h:∀i (hi:i<L.length) j x,(L[i].vals)[j]?=some x->w.cell? ⟨g,i*6+j,none⟩=some x)(i:Nat)(hi:i<L.length):b46 w g (i*6) L[i]:=
 ⟨h i hi 0 _ rfl,h i hi 1 _ rfl,h i hi 2 _ rfl,h i hi 3 _ rfl,h i hi 4 _ rfl,h i hi 5 _ rfl⟩
theorem mt (w:World)(a b:Nat):(w.drewN a).drewN b=w.drewN (a+b):=by simp [World.drewN,Nat.add_assoc]
def ad7:Option Nat->Int
 | some i=>i
 | none=>-1
theorem oc {k:IntKind}{a b:Int}(h:a=b):Ending.returned (.int k a)=.returned (.int k b):=by rw [h]
def fst (p:Nat->Bool):Nat->Nat->Option Nat
 | _,0=>none
 | i,n+1=>if p i then some i else fst p (i+1) n
theorem aw7 {α:Type}{p:α->Bool}{L:List α}(h:∀j (hj:j<L.length),p L[j]=false):L.findIdx? p=none:=by
 rw [List.findIdx?_eq_none_iff];intro x hx;obtain ⟨j,hj,rfl⟩:=List.getElem_of_mem hx;exact h j hj
theorem ab7 {α:Type}{p:α->Bool}{L:List α}{k:Nat}(hk:k<L.length)(hp:p L[k]=true)(h:∀j (hj:j<k),p (L[j]'(by omega))=false):L.findIdx? p=some k:=by
 rw [List.findIdx?_eq_some_iff_getElem];exact ⟨hk,hp,fun j hj=>by simp [h j hj]⟩
theorem oh {α:Type}{p:α->Bool}{L:List α}{k:Nat}(hk:k<L.length)(hno:∀j (hj:j<L.length),j<k->p L[j]=false)(hp:p L[k]=false):∀j (hj:j<L.length),j<k+1->p L[j]=false:=by
 intro j hj hlt;by_cases h:j=k
 ·subst h;exact hp
 ·exact hno j hj (by omega)
theorem a23 {α:Type}{p:α->Bool}{L:List α}{k:Nat}(hk:k<L.length)(hno:∀j (hj:j<L.length),j<k->p L[j]=false)(hp:p L[k]=true):ad7 (L.findIdx? p)=(k:Int):=by
 rw [ab7 hk hp (fun j hj=>hno j (by omega) hj)];rfl
theorem ao1 {α:Type}{p:α->Bool}{L:List α}{k:Nat}(hk:¬k<L.length)(hno:∀j (hj:j<L.length),j<k->p L[j]=false):ad7 (L.findIdx? p)=-1:=by
 rw [aw7 (fun j hj=>hno j hj (by omega))];rfl
def ee (nd ix:Int)(e:aw):Bool:=e.node==nd && e.index==ix
def atI (L:List aw)(nd ix:Int):Int:=ad7 (L.findIdx? (ee nd ix))
def pw (n:Nat):Int:=((2 ^ n:Nat):Int)
theorem b26 (n:Nat):pw (n+1)=2*pw n:=by unfold pw;rw [Nat.pow_succ];omega
theorem lq (n:Nat):1<=pw n:=by unfold pw;have:=Nat.two_pow_pos n;omega
theorem xt {a b:Nat}(h:a<=b):pw a<=pw b:=by unfold pw;have:=Nat.pow_le_pow_right (n:=2) (by omega) h;omega
theorem ag9 (n:Nat)(h:n<=20):pw n<=1048576:=Int.le_trans (xt h) (by decide)
def af (b:Int)(t:ej):Bool:=t.base==b
def thI (T:List ej)(b:Int):Int:=ad7 (T.findIdx? (af b))
def au (b:Int)(t:pp):Bool:=t.base==b
def bf (N:List pp)(b:Int):Int:=
 match N.find? (au b) with
 | some l=>2 ^ (l.bits-2).toNat
 | none=>0
def fx (N:List pp)(r:Int):Int:=if N.any (au r) then r else -1
def below (up:Int)(x:aw):Bool:=decide (up<x.up)
def ie (L:List aw)(i:Nat)(up:Int):Nat:=i+1+((L.drop (i+1)).takeWhile (below up)).length
theorem y6 {α:Type}(p:α->Bool):∀(L:List α) (m:Nat),m<=L.length->(∀j (hj:j<L.length),j<m->p L[j]=true)->(∀(h:m<L.length),p L[m]=false)->(L.takeWhile p).length=m
 | [],m,hm,_,_=>by simp at hm;simp [hm]
 | a :: L,0,_,_,h2=>by
  have:=h2 (by simp);simp only [List.getElem_cons_zero] at this;simp [this]
 | a :: L,m+1,hm,h1,h2=>by
  have h0:=h1 0 (by simp) (by omega);simp only [List.getElem_cons_zero] at h0;simp only [List.takeWhile_cons,h0,if_true,List.length_cons];rw [y6 p L m (by simpa using hm) (fun j hj hlt=>by have:=h1 (j+1) (by simpa using hj) (by omega);rwa [List.getElem_cons_succ] at this) (fun h=>by have:=h2 (by simpa using h);rwa [List.getElem_cons_succ] at this)]
theorem bf_ {L:List aw}{i k:Nat}{up:Int}(h1:i+1<=k)(h2:k<=L.length)(h3:∀j (hj:j<L.length),i+1<=j->j<k->below up L[j]=true)(h4:∀(h:k<L.length),below up L[k]=false):ie L i up=k:=by
 unfold ie;rw [y6 (below up) (L.drop (i+1)) (k-(i+1)) (by simp;omega) ?_ ?_]
 ·omega
 ·intro j hj hlt;simp only [List.getElem_drop];exact h3 _ _ (by omega) (by omega)
 ·intro h;simp only [List.getElem_drop];have e:i+1+(k-(i+1))=k:=by omega
  simp only [List.length_drop] at h;have:=h4 (by omega);simpa only [e] using this
theorem a50 {N:List pp}{b:Int}{k:Nat}(hk:k<N.length)(hno:∀j (hj:j<N.length),j<k->au b N[j]=false)(hp:au b N[k]=true):bf N b=pw (N[k].bits-2).toNat:=by
 have:N.find? (au b)=some N[k]:=by
  rw [List.find?_eq_some_iff_getElem];exact ⟨hp,k,hk,rfl,fun j hj=>by simp [hno j (by omega) hj]⟩
 unfold bf;rw [this];simp [pw]
theorem a89 {N:List pp}{b:Int}{k:Nat}(hk:¬k<N.length)(hno:∀j (hj:j<N.length),j<k->au b N[j]=false):bf N b=0:=by
 have:N.find? (au b)=none:=by
  rw [List.find?_eq_none];intro x hx;obtain ⟨j,hj,rfl⟩:=List.getElem_of_mem hx;simp [hno j hj (by omega)]
 unfold bf;rw [this]
theorem a56 {N:List pp}{b:Int}{k:Nat}(hk:k<N.length)(hp:au b N[k]=true):fx N b=b:=by
 unfold fx;rw [if_pos];rw [List.any_eq_true];exact ⟨N[k],List.getElem_mem hk,hp⟩
theorem a97 {N:List pp}{b:Int}{k:Nat}(hk:¬k<N.length)(hno:∀j (hj:j<N.length),j<k->au b N[j]=false):fx N b=-1:=by
 unfold fx;rw [if_neg];rw [List.any_eq_true];rintro ⟨x,hx,h⟩;obtain ⟨j,hj,rfl⟩:=List.getElem_of_mem hx;rw [hno j hj (by omega)] at h;cases h
theorem sh.drewN {α:Type}{w:World}{f:α->List Value}{k:Nat}{v:Value}{L:List α}(h:sh w f k v L)(q:Nat):sh (w.drewN q) f k v L:=h
def ay (w:World)(v:Value)(l:List Int):Prop:=
 ∃A cap,v=.slice A l.length cap/\(0<l.length->∃g o,A=some ⟨g,o,none⟩/\∀i (hi:i<l.length),w.cell? ⟨g,o+i,none⟩=some (.int .i64 l[i]))
def pt (N:List pp)(nd x:Int):Bool:=decide (0<=x) && decide (x<bf N nd)
def u_ (L:List aw)(nd x:Int):Option Int:=
 match L.find? (ee nd x) with
 | some e=>if e.ty==2 then some e.base else none
 | none=>none
def goF (L:List aw)(N:List pp):Int->List Int->Option (Int×Int)
 | _,[]=>none
 | nd,[x]=>if pt N nd x then some (nd,x) else none
 | nd,x :: y :: r=>if pt N nd x then (match u_ L nd x with
  | some nd'=>goF L N nd' (y :: r)
  | none=>none) else none
def bk (L:List aw)(N:List pp)(root:Int)(l:List Int):Option (Int×Int):=
 if l.length<1\/3<l.length then none else goF L N root l
def ts:Option (Int×Int)->Ending
 | some (n,i)=>.returned (.tuple #[.int .i64 n,.int .i64 i,.bool true])
 | none=>.returned (.tuple #[.int .i64 0,.int .i64 0,.bool false])
theorem xl {L:List aw}{N:List pp}{nd x:Int}{r:List Int}(h:pt N nd x=false):goF L N nd (x :: r)=none:=by
 cases r<;>simp [goF,h]
theorem a59 {L:List aw}{N:List pp}{nd x:Int}(h:pt N nd x=true):goF L N nd [x]=some (nd,x):=by
 simp [goF,h]
theorem av3 {L:List aw}{N:List pp}{nd x y:Int}{r:List Int}(h:pt N nd x=true):goF L N nd (x :: y :: r)=(match u_ L nd x with
 | some nd'=>goF L N nd' (y :: r)
 | none=>none):=by
 simp [goF,h]
theorem bo9 (L:List aw)(nd x:Int):
 (atI L nd x=-1/\L.find? (ee nd x)=none)\/∃(p:Nat) (hp:p<L.length),atI L nd x=(p:Int)/\L.find? (ee nd x)=some L[p]/\ee nd x L[p]=true:=by
 cases h:L.findIdx? (ee nd x) with
 | none=>
  left;refine ⟨by simp [atI,h,ad7],?_⟩;rw [List.findIdx?_eq_none_iff] at h;rw [List.find?_eq_none];intro y hy;simp [h y hy]
 | some p=>
  right;rw [List.findIdx?_eq_some_iff_getElem] at h;obtain ⟨hp,h1,h2⟩:=h;refine ⟨p,hp,?_,?_,h1⟩
  ·unfold atI;rw [ab7 hp h1 (fun j hj=>by simpa using h2 j hj)];rfl
  ·rw [List.find?_eq_some_iff_getElem];exact ⟨h1,p,hp,rfl,fun j hj=>by simpa using h2 j hj⟩
structure Fr (w w':World)(S:Nat->Prop):Prop where
 os:w'.os=w.os
 tape:w'.tape=w.tape
 output:w'.output=w.output
 size:w.heap.size<=w'.heap.size
 block:∀k,k<w.heap.size->¬S k->w'.heap[k]?=w.heap[k]?
theorem Fr.refl (w:World)(S:Nat->Prop):Fr w w S:=⟨rfl,rfl,rfl,Nat.le_refl _,fun _ _ _=>rfl⟩
theorem Fr.step {w w1 w2:World}{S S2:Nat->Prop}(h:Fr w w1 S)(h2:Fr w1 w2 S2)(hs:∀k,S2 k->S k\/w.heap.size<=k):Fr w w2 S:=by
 refine ⟨h2.os.trans h.os,h2.tape.trans h.tape,h2.output.trans h.output,Nat.le_trans h.size h2.size,fun k hk hn=>?_⟩
 rw [h2.block k (Nat.lt_of_lt_of_le hk h.size) (fun hk2=>by rcases hs k hk2 with h3 | h3;exact hn h3;omega)];exact h.block k hk hn
theorem Fr.mono {w w1:World}{S S2:Nat->Prop}(h:Fr w w1 S)(hs:∀k,S k->S2 k):Fr w w1 S2:=
 ⟨h.os,h.tape,h.output,h.size,fun k hk hn=>h.block k hk (fun h3=>hn (hs k h3))⟩
theorem Fr.alloc {w w1:World}{S:Nat->Prop}(h:Fr w w1 S)(o:Obj):Fr w (w1.alloc o) S:=
 ⟨h.os,h.tape,h.output,by have:=h.size;simp;omega,fun k hk hn=>by rw [heap_alloc_old w1 o (Nat.lt_of_lt_of_le hk h.size)];exact h.block k hk hn⟩
theorem ft (w:World)(b o:Nat)(v:Value)(k:Nat)(hk:k≠b):(w.setCell ⟨b,o,none⟩ v).heap[k]?=w.heap[k]?:=by
 simp [World.setCell,Array.getElem?_modify,Ne.symm hk]
theorem ak (w:World)(b o:Nat)(v:Value){c:Array Value}{t:TypeId}{fr:Nat×Nat}(h:w.heap[b]?=some (.cells c t fr)):
 (w.setCell ⟨b,o,none⟩ v).heap[b]?=some (.cells (c.setIfInBounds o v) t fr):=by
 simp [World.setCell,Array.getElem?_modify,h]
theorem bu (w:World)(a:Addr)(v:Value):(w.setCell a v).heap.size=w.heap.size:=by simp [World.setCell]
theorem Fr.setCell {w w1:World}{S:Nat->Prop}(h:Fr w w1 S){b:Nat}(hb:S b\/w.heap.size<=b)(o:Nat)(v:Value):Fr w (w1.setCell ⟨b,o,none⟩ v) S:=
 ⟨h.os,h.tape,h.output,by rw [bu];exact h.size,fun k hk hn=>by
  rw [ft w1 b o v k (fun e=>by subst e;rcases hb with h3 | h3;exact hn h3;omega)];exact h.block k hk hn⟩
theorem Fr.drewN {w w1:World}{S:Nat->Prop}(h:Fr w w1 S)(q:Nat):Fr w (w1.drewN q) S:=⟨h.os,h.tape,h.output,h.size,h.block⟩
theorem Fr.drew {w w1:World}{S:Nat->Prop}(h:Fr w w1 S):Fr w w1.drew S:=⟨h.os,h.tape,h.output,h.size,h.block⟩
theorem Fr.grown {w w1 w2:World}{S:Nat->Prop}{row:Option Nat}(h:Fr w w1 S)(hg:w1.grownBy w2 row)(hs:∀k,row=some k->S k\/w.heap.size<=k):Fr w w2 S:=
 ⟨hg.os.trans h.os,hg.tape.trans h.tape,hg.output.trans h.output,Nat.le_trans h.size hg.size,fun k hk hn=>by
  rw [hg.block k (Nat.lt_of_lt_of_le hk h.size) (fun e=>by rcases hs k e.symm with h3 | h3;exact hn h3;omega)];exact h.block k hk hn⟩
theorem Fr.same {w w1:World}{S:Nat->Prop}(h:Fr w w1 S){k:Nat}{o:Obj}(hk:w.heap[k]?=some o)(hn:¬S k):w1.heap[k]?=some o:=by
 rw [h.block k (Array.getElem?_eq_some_iff.1 hk).1 hn];exact hk
theorem Fr.cell {w w1:World}{S:Nat->Prop}(h:Fr w w1 S){a:Addr}{v:Value}(hk:w.cell? a=some v)(hn:¬S a.block):w1.cell? a=some v:=
 (World.cell?_of_block (h.block a.block (World.block_lt_of_cell? w a hk) hn)).trans hk
theorem Fr.owns {w w1:World}{S:Nat->Prop}(h:Fr w w1 S){b:Nat}{t:TypeId}{s:Nat}{v:Value}{n:Nat}{xs:List Value}(ho:w.ownsRow b t s v n xs)(hn:∀k,v.ownBlock=some k->¬S k):w1.ownsRow b t s v n xs:=by
 refine ⟨ho.1,?_⟩;rcases ho.2 with hh | ⟨g,cap,cur,rfl,hb,hgg,rest⟩
 ·exact .inl hh
 ·exact .inr ⟨g,cap,cur,rfl,hb,h.same hgg (hn g rfl),rest⟩
theorem aa {w:World}{b o:Nat}{c:Array Value}{t:TypeId}{v:Value}(h:w.heap[b]?=some (.cells c t (0,0)))(hv:c[o]?=some v):w.cell? ⟨b,o,none⟩=some v:=by
 simp [World.cell?,h,hv]
theorem a80 {w:World}{b:Nat}{t:TypeId}{a0 a1 a2 a3 a4:Value}(h:w.heap[b]?=some (.cells #[a0,a1,a2,a3,a4] t (0,0))):w.cell? ⟨b,0,none⟩=some a0/\w.cell? ⟨b,1,none⟩=some a1/\w.cell? ⟨b,2,none⟩=some a2/\w.cell? ⟨b,3,none⟩=some a3/\w.cell? ⟨b,4,none⟩=some a4:=
 ⟨aa h rfl,aa h rfl,aa h rfl,aa h rfl,aa h rfl⟩
theorem aa_ {w:World}{b:Nat}{t:TypeId}{a0 a1 a2 a3 a4 a5:Value}(h:w.heap[b]?=some (.cells #[a0,a1,a2,a3,a4,a5] t (0,0))):w.cell? ⟨b,0,none⟩=some a0/\w.cell? ⟨b,1,none⟩=some a1/\w.cell? ⟨b,2,none⟩=some a2/\w.cell? ⟨b,3,none⟩=some a3/\w.cell? ⟨b,4,none⟩=some a4/\w.cell? ⟨b,5,none⟩=some a5:=
 ⟨aa h rfl,aa h rfl,aa h rfl,aa h rfl,aa h rfl,aa h rfl⟩
theorem w_ {w:World}{b:Nat}{t:TypeId}{a0 a1 a2 a3 a4 a5 a6 a7 a8 a9:Value}(h:w.heap[b]?=some (.cells #[a0,a1,a2,a3,a4,a5,a6,a7,a8,a9] t (0,0))):w.cell? ⟨b,0,none⟩=some a0/\w.cell? ⟨b,1,none⟩=some a1/\w.cell? ⟨b,2,none⟩=some a2/\w.cell? ⟨b,3,none⟩=some a3/\w.cell? ⟨b,4,none⟩=some a4/\w.cell? ⟨b,5,none⟩=some a5/\w.cell? ⟨b,6,none⟩=some a6/\w.cell? ⟨b,7,none⟩=some a7/\w.cell? ⟨b,8,none⟩=some a8/\w.cell? ⟨b,9,none⟩=some a9:=
 ⟨aa h rfl,aa h rfl,aa h rfl,aa h rfl,aa h rfl,aa h rfl,aa h rfl,aa h rfl,aa h rfl,aa h rfl⟩
theorem bg9 {w:World}{b:Nat}{t:TypeId}{a0 a1 a2 a3 a4 a5 a6 a7 a8 a9 a10 a11 a12 a13 a14:Value}(h:w.heap[b]?=some (.cells #[a0,a1,a2,a3,a4,a5,a6,a7,a8,a9,a10,a11,a12,a13,a14] t (0,0))):w.cell? ⟨b,0,none⟩=some a0/\w.cell? ⟨b,1,none⟩=some a1/\w.cell? ⟨b,2,none⟩=some a2/\w.cell? ⟨b,3,none⟩=some a3/\w.cell? ⟨b,4,none⟩=some a4/\w.cell? ⟨b,5,none⟩=some a5/\w.cell? ⟨b,6,none⟩=some a6/\w.cell? ⟨b,7,none⟩=some a7/\w.cell? ⟨b,8,none⟩=some a8/\w.cell? ⟨b,9,none⟩=some a9/\w.cell? ⟨b,10,none⟩=some a10/\w.cell? ⟨b,11,none⟩=some a11/\w.cell? ⟨b,12,none⟩=some a12/\w.cell? ⟨b,13,none⟩=some a13/\w.cell? ⟨b,14,none⟩=some a14:=
 ⟨aa h rfl,aa h rfl,aa h rfl,aa h rfl,aa h rfl,aa h rfl,aa h rfl,aa h rfl,aa h rfl,aa h rfl,aa h rfl,aa h rfl,aa h rfl,aa h rfl,aa h rfl⟩
theorem ab {w:World}{b o:Nat}{c:Array Value}{t:TypeId}(h:w.heap[b]?=some (.cells c t (0,0))):w.frozen? ⟨b,o,none⟩=false:=by
 simp [World.frozen?,h]
structure dq where
 L:List aw
 N:List pp
 T:List ej
structure ax where
 lv:Value
 nv:Value
 tv:Value
 qv:Value
 dv:Value
 bv:Value
 sv:Value
 ws:Nat->Int
def ax.fp (kb:Nat)(V:ax)(k:Nat):Prop:=k=kb\/V.lv.ownBlock=some k\/V.nv.ownBlock=some k\/V.tv.ownBlock=some k
structure a76 (V:ax)(c:Array Value):Prop where
 size:c.size=1031
 l:c[0]?=some V.lv
 w:∀i,i<1024->c[i+1]?=some (.int .i64 (V.ws i))
 n:c[1025]?=some V.nv
 t:c[1026]?=some V.tv
 q:c[1027]?=some V.qv
 d:c[1028]?=some V.dv
 b:c[1029]?=some V.bv
 s:c[1030]?=some V.sv
structure aj (w:World)(kb:Nat)(R:dq)(V:ax):Prop where
 blk:∃c,w.heap[kb]?=some (.cells c 106 (0,0))/\a76 V c
 l:w.ownsRow 0 108 9 V.lv R.L.length (gn R.L)
 n:w.ownsRow 0 110 2 V.nv R.N.length (ap6 R.N)
 t:w.ownsRow 0 112 6 V.tv R.T.length (xz R.T)
 kl:V.lv.ownBlock≠some kb
 kn:V.nv.ownBlock≠some kb
 kt:V.tv.ownBlock≠some kb
 ln:∀k,V.lv.ownBlock=some k->V.nv.ownBlock≠some k
 lt:∀k,V.lv.ownBlock=some k->V.tv.ownBlock≠some k
 nt:∀k,V.nv.ownBlock=some k->V.tv.ownBlock≠some k
theorem aj.fpLt {w:World}{kb:Nat}{R:dq}{V:ax}(h:aj w kb R V){k:Nat}(hk:V.fp kb k):k<w.heap.size:=by
 obtain ⟨c,hc,_⟩:=h.blk;rcases hk with rfl | hk | hk | hk
 ·exact (Array.getElem?_eq_some_iff.1 hc).1
 ·exact (h.l.lt k hk).2
 ·exact (h.n.lt k hk).2
 ·exact (h.t.lt k hk).2
theorem aj.frame {w w':World}{kb:Nat}{R:dq}{V:ax}{S:Nat->Prop}(h:aj w kb R V)(hf:Fr w w' S)(hs:∀k,V.fp kb k->¬S k):aj w' kb R V:=by
 obtain ⟨c,hc,hcc⟩:=h.blk;exact ⟨⟨c,hf.same hc (hs _ (.inl rfl)),hcc⟩,hf.owns h.l (fun k hk=>hs k (.inr (.inl hk))),hf.owns h.n (fun k hk=>hs k (.inr (.inr (.inl hk)))),
  hf.owns h.t (fun k hk=>hs k (.inr (.inr (.inr hk)))),h.kl,h.kn,h.kt,h.ln,h.lt,h.nt⟩
theorem aj.cl {w:World}{kb:Nat}{R:dq}{V:ax}(h:aj w kb R V):w.cell? ⟨kb,0,none⟩=some V.lv:=by
 obtain ⟨c,hc,hcc⟩:=h.blk;exact aa hc hcc.l
theorem aj.cn {w:World}{kb:Nat}{R:dq}{V:ax}(h:aj w kb R V):w.cell? ⟨kb,1025,none⟩=some V.nv:=by
 obtain ⟨c,hc,hcc⟩:=h.blk;exact aa hc hcc.n
theorem aj.ct {w:World}{kb:Nat}{R:dq}{V:ax}(h:aj w kb R V):w.cell? ⟨kb,1026,none⟩=some V.tv:=by
 obtain ⟨c,hc,hcc⟩:=h.blk;exact aa hc hcc.t
theorem aj.fz {w:World}{kb:Nat}{R:dq}{V:ax}(h:aj w kb R V)(o:Nat):w.frozen? ⟨kb,o,none⟩=false:=by
 obtain ⟨c,hc,hcc⟩:=h.blk;exact ab hc
theorem aj.ll {w:World}{kb:Nat}{R:dq}{V:ax}(h:aj w kb R V):sh w aw.vals 9 V.lv R.L:=bm aw.vals_len h.l
theorem aj.lnn {w:World}{kb:Nat}{R:dq}{V:ax}(h:aj w kb R V):sh w pp.vals 2 V.nv R.N:=bm pp.vals_len h.n
theorem aj.ltt {w:World}{kb:Nat}{R:dq}{V:ax}(h:aj w kb R V):sh w ej.vals 6 V.tv R.T:=bm ej.vals_len h.t
theorem qn {α:Type}(f:α->List Value)(k:Nat)(hk:∀a,(f a).length=k):∀(L:List α) (x:Nat),(L.take x).flatMap f=(L.flatMap f).take (x*k)
 | [],x=>by simp
 | a :: L,0=>by simp
 | a :: L,x+1=>by
  simp only [List.take_succ_cons,List.flatMap_cons,qn f k hk L x];rw [List.take_append,hk a,List.take_of_length_le (l:=f a) (by rw [hk a,Nat.add_mul];omega)];congr 2;rw [Nat.add_mul];omega
theorem qo {α:Type}(f:α->List Value)(k:Nat)(hk:∀a,(f a).length=k):∀(L:List α) (x:Nat),(L.drop x).flatMap f=(L.flatMap f).drop (x*k)
 | [],x=>by simp
 | a :: L,0=>by simp
 | a :: L,x+1=>by
  simp only [List.drop_succ_cons,List.flatMap_cons,qo f k hk L x];rw [List.drop_append,hk a,List.drop_eq_nil_of_le (as:=f a) (by rw [hk a,Nat.add_mul];omega)];simp only [List.nil_append];congr 1;rw [Nat.add_mul];omega
theorem mp (g o j:Nat):(⟨g,o,none⟩:Addr).add j=⟨g,o+j,none⟩:=by unfold Addr.add;split<;>simp_all
theorem aq8 {w:World}{b t s g n cap:Nat}{xs:List Value}(h:w.ownsRow b t s (.slice (some ⟨g,0,none⟩) n cap) n xs)(x:Nat):
 ∀j u,(xs.take x)[j]?=some u->w.cell? ((⟨g,0,none⟩:Addr).add j)=some u:=by
 intro j u hu;refine h.cells (g:=g) rfl j u ?_;rw [List.getElem?_take] at hu;split at hu
 ·exact hu
 ·cases hu
theorem aq5 {w:World}{b t s g n cap:Nat}{xs:List Value}(h:w.ownsRow b t s (.slice (some ⟨g,0,none⟩) n cap) n xs)(x:Nat):
 ∀j u,(xs.drop x)[j]?=some u->w.cell? ((⟨g,x,none⟩:Addr).add j)=some u:=by
 intro j u hu;rw [List.getElem?_drop] at hu;have:=h.cells (g:=g) rfl (x+j) u hu;rw [mp] at this ⊢;simpa using this
theorem j7 {α:Type}(f:α->List Value)(hf:∀a,∀u∈f a,u.oneCell'=true)(L:List α):∀u∈L.flatMap f,u.oneCell'=true:=by
 intro u hu;obtain ⟨a,_,ha⟩:=List.mem_flatMap.1 hu;exact hf a u ha
theorem aw.one (a:aw):∀u∈a.vals,u.oneCell'=true:=by intro u hu;simp [aw.vals] at hu;rcases hu with rfl | rfl | rfl | rfl | rfl | rfl | rfl | rfl | rfl<;>rfl
theorem pp.one (a:pp):∀u∈a.vals,u.oneCell'=true:=by intro u hu;simp [pp.vals] at hu;rcases hu with rfl | rfl<;>rfl
theorem ej.one (a:ej):∀u∈a.vals,u.oneCell'=true:=by intro u hu;simp [ej.vals] at hu;rcases hu with rfl | rfl | rfl | rfl | rfl | rfl<;>rfl
theorem dg (w:World)(cs:List Value)(t:TypeId):∀j u,cs[j]?=some u->(w.alloc (.cells cs.toArray t)).cell? ((⟨w.heap.size,0,none⟩:Addr).add j)=some u:=by
 intro j u hu;rw [mp];refine aa (heap_alloc_new _ _) ?_;simpa using hu
theorem xf (w:World)(cs:List Value)(t:TypeId)(n:Nat)(hn:w.heap.size=n):∀j u,cs[j]?=some u->(w.alloc (.cells cs.toArray t)).cell? ((⟨n,0,none⟩:Addr).add j)=some u:=by
 subst hn;exact dg w cs t
theorem jn {w:World}{b b' t s n:Nat}{v:Value}{xs:List Value}(h:w.ownsRow b t s v n xs)(hb:b'<=b):w.ownsRow b' t s v n xs:=by
 refine ⟨h.1,?_⟩;rcases h.2 with h2 | ⟨g,cap,cur,hv,hbb,rest⟩
 ·exact .inl h2
 ·exact .inr ⟨g,cap,cur,hv,Nat.le_trans hb hbb,rest⟩
theorem ep {w:World}{b t s n:Nat}{v:Value}{xs:List Value}(h:w.ownsRow b t s v n xs)(hn:0<n):∃g cap,v=.slice (some ⟨g,0,none⟩) n cap/\n<=cap/\cap<=maxLen/\g<w.heap.size:=by
 rcases h.2 with ⟨_,h0⟩ | ⟨g,cap,cur,hv,hb,hg,hnc,hcm,_⟩
 ·omega
 ·exact ⟨g,cap,hv,hnc,hcm,(Array.getElem?_eq_some_iff.1 hg).1⟩
theorem aj.setL {w w':World}{kb:Nat}{R:dq}{V:ax}(h:aj w kb R V){lv':Value}{L':List aw}(hw:w'=w.setCell ⟨kb,0,none⟩ lv')
 (ho:w.ownsRow 0 108 9 lv' L'.length (gn L')) (hn:∀k,lv'.ownBlock=some k->V.nv.ownBlock≠some k/\V.tv.ownBlock≠some k/\k≠kb) :
 aj w' kb {R with L:=L'} {V with lv:=lv'}:=by
 subst hw;have hf:Fr w (w.setCell ⟨kb,0,none⟩ lv') (fun k=>k=kb):=Fr.setCell (S:=fun k=>k=kb) (Fr.refl _ _) (.inl rfl) _ _;obtain ⟨c,hc,hcc⟩:=h.blk;refine ⟨⟨_,ak w kb 0 lv' hc,?_⟩,hf.owns ho (fun k hk e=>(hn k hk).2.2 e),hf.owns h.n (fun k hk e=>h.kn (e▸hk)),hf.owns h.t (fun k hk e=>h.kt (e▸hk)),
  fun e=>(hn kb e).2.2 rfl,h.kn,h.kt,fun k hk=>(hn k hk).1,fun k hk=>(hn k hk).2.1,h.nt⟩
 obtain ⟨c0,c1,c2,c3,c4,c5,c6,c7,c8⟩:=hcc;refine ⟨by simpa using c0,by simp [c0],?_,?_,?_,?_,?_,?_,?_⟩
 ·intro i hi;rw [Array.getElem?_setIfInBounds_ne (by omega)];exact c2 i hi
 all_goals (rw [Array.getElem?_setIfInBounds_ne (by omega)];assumption)
def ns (L:List aw)(i:Nat)(up:Int)(e:aw):List aw:=
 L.take (ie L i up)++{e with up:=up+1} :: L.drop (ie L i up)
structure ov where
 node:Int
 index:Int
 ty:Int
 base:Int
 bits:Int
 rights:Int
 badge:Int
 mark:Int
 parent:Int
 place:Int
def ov.vals (e:ov):List Value:=
 [.int .i64 e.node,.int .i64 e.index,.int .i64 e.ty,.int .i64 e.base,.int .i64 e.bits,.int .i64 e.rights,.int .i64 e.badge,.int .i64 e.mark,.int .i64 e.parent,.int .i64 e.place]
def sf (L:List ov):List Value:=L.flatMap ov.vals
theorem ov.vals_len (a:ov):a.vals.length=10:=rfl
theorem ov.one (a:ov):∀u∈a.vals,u.oneCell'=true:=by intro u hu;simp [ov.vals] at hu;rcases hu with rfl | rfl | rfl | rfl | rfl | rfl | rfl | rfl | rfl | rfl<;>rfl
def par (L:List aw)(up:Int):Nat->Int×Int
 | 0=>(-1,-1)
 | p+1=>match L[p]? with
  | some e=>if e.up=up-1 then (e.node,e.index) else par L up p
  | none=>par L up p
def a69 (L:List aw)(i:Nat)(e:aw):ov:=
 ⟨e.node,e.index,e.ty,e.base,e.bits,e.rights,e.badge,e.mark,(par L e.up i).1,(par L e.up i).2⟩
def jk (L:List aw):Nat->List ov
 | 0=>[]
 | k+1=>jk L k++(match L[k]? with
  | some e=>[a69 L k e]
  | none=>[])
theorem sx (L:List aw)(k:Nat)(hk:k<L.length):jk L (k+1)=jk L k++[a69 L k L[k]]:=by
 simp [jk,hk]
theorem vh (L:List aw):∀k,k<=L.length->(jk L k).length=k
 | 0,_=>rfl
 | k+1,h=>by rw [sx L k (by omega)];simp [vh L k (by omega)]
theorem bg7 (L:List aw)(up:Int)(m:Nat)(hm:m<L.length)(h:L[m].up=up-1):par L up (m+1)=(L[m].node,L[m].index):=by
 simp [par,hm,h]
theorem ai6 (L:List aw)(up:Int)(m:Nat)(hm:m<L.length)(h:¬L[m].up=up-1):par L up (m+1)=par L up m:=by
 simp [par,hm,h]
structure Cl where
 kind:Int
 at_:List Int
 to:List Int
 ty:Int
 bits:Int
 count:Int
 rights:Int
 badge:Int
 value:Int
 offset:Int
def Cl.cells (c:Cl)(av tv:Value):Array Value:=
 #[.int .i64 c.kind,av,tv,.int .i64 c.ty,.int .i64 c.bits,.int .i64 c.count,.int .i64 c.rights,.int .i64 c.badge,.int .i64 c.value,.int .i64 c.offset]
def gp (a b:Int):Int:=Go.bits BinOp.and IntKind.i64 a b
def bw (R:dq)(root:Int)(c:Cl)(p:Nat)(e:aw):Int×List aw:=
 if c.kind=2/\e.ty=1\/c.kind=3/\e.ty≠3 then (3,R.L)
 else if c.kind=3/\e.badge≠0 then (5,R.L)
 else if (c.kind≠4/\(c.rights<0\/7<c.rights))\/(c.kind=3/\(c.badge<1\/65535<c.badge)) then (7,R.L)
 else match bk R.L R.N root c.to with
  | none=>(2,R.L)
  | some (n,i)=>
   if (R.L.find? (ee n i)).isSome then (4,R.L)
   else if c.kind=4 then (0,R.L.set p {e with node:=n,index:=i})
   else (0,ns R.L p e.up {e with node:=n,index:=i,rights:=gp e.rights c.rights,badge:=if c.kind=3 then c.badge else e.badge,up:=0})
theorem lg {α:Type}(f:α->List Value)(k:Nat)(hk:∀a,(f a).length=k)(v:Value)(a':α):
 ∀(L:List α) (p j:Nat) (hp:p<L.length),j<k->f a'=(f L[p]).set j v->(L.flatMap f).set (p*k+j) v=(L.set p a').flatMap f
 | [],p,j,hp,_,_=>absurd hp (by simp)
 | a :: L,0,j,_,hj,h=>by
  simp only [List.getElem_cons_zero] at h;simp only [List.flatMap_cons,Nat.zero_mul,Nat.zero_add,List.set_cons_zero,h];rw [List.set_append_left _ _ (by rw [hk a];exact hj)]
 | a :: L,p+1,j,hp,hj,h=>by
  simp only [List.getElem_cons_succ] at h;simp only [List.flatMap_cons,List.set_cons_succ];have e:(p+1)*k+j=(f a).length+(p*k+j):=by rw [hk a,Nat.add_mul];omega
  rw [e,List.set_append_right _ _ (by omega)];have e2:(f a).length+(p*k+j)-(f a).length=p*k+j:=by omega
  rw [e2,lg f k hk v a' L p j (by simpa using hp) hj h]
theorem eh {w:World}{b t s g n cap:Nat}{xs:List Value}(h:w.ownsRow b t s (.slice (some ⟨g,0,none⟩) n cap) n xs)(o:Nat)(v:Value):
 (w.setCell ⟨g,o,none⟩ v).ownsRow b t s (.slice (some ⟨g,0,none⟩) n cap) n (xs.set o v):=by
 refine ⟨by rw [List.length_set];exact h.1,?_⟩;rcases h.2 with ⟨h0,_⟩ | ⟨g',cap',cur,hv,hb,hg,hn,hcm,hcs,ht⟩
 ·cases h0
 ·cases hv
  refine .inr ⟨g,cap,_,rfl,hb,ak w g o v hg,hn,hcm,by simpa using hcs,?_⟩;rw [<- ht,Array.toList_setIfInBounds,List.take_set]
theorem ay.fr {w w':World}{v:Value}{l:List Int}{S:Nat->Prop}(h:ay w v l)(hf:Fr w w' S)(hs:∀k,v.ownBlock=some k->¬S k):ay w' v l:=by
 obtain ⟨A,cap,rfl,hA⟩:=h;refine ⟨A,cap,rfl,fun h0=>?_⟩
 obtain ⟨g,o,rfl,hc⟩:=hA h0;exact ⟨g,o,rfl,fun i hi=>hf.cell (hc i hi) (hs g rfl)⟩
theorem aj.setNode {w:World}{kb:Nat}{R:dq}{V:ax}(h:aj w kb R V){g cap p:Nat}(hp:p<R.L.length)(hlv:V.lv=.slice (some ⟨g,0,none⟩) R.L.length cap)(n i:Int):
 aj ((w.setCell ⟨g,p*9,none⟩ (.int .i64 n)).setCell ⟨g,p*9+1,none⟩ (.int .i64 i)) kb {R with L:=R.L.set p {R.L[p] with node:=n,index:=i}} V:=by
 have hl:=h.l;rw [hlv] at hl;have h1:=eh hl (p*9) (.int .i64 n);have h2:=eh h1 (p*9+1) (.int .i64 i);have hf:Fr w ((w.setCell ⟨g,p*9,none⟩ (.int .i64 n)).setCell ⟨g,p*9+1,none⟩ (.int .i64 i)) (fun k=>k=g):=
  Fr.setCell (S:=fun k=>k=g) (Fr.setCell (S:=fun k=>k=g) (Fr.refl _ _) (.inl rfl) _ _) (.inl rfl) _ _
 have hgl:V.lv.ownBlock=some g:=by rw [hlv];rfl
 obtain ⟨cc,hc,hcc⟩:=h.blk;refine ⟨⟨cc,hf.same hc (fun e=>h.kl (by rw [hgl,e])),hcc⟩,?_,hf.owns h.n (fun k hk e=>h.ln g hgl (by rw [<- e];exact hk)),hf.owns h.t (fun k hk e=>h.lt g hgl (by rw [<- e];exact hk)),h.kl,h.kn,h.kt,h.ln,h.lt,h.nt⟩
 show World.ownsRow _ 0 108 9 V.lv (R.L.set p {R.L[p] with node:=n,index:=i}).length (gn (R.L.set p {R.L[p] with node:=n,index:=i}));rw [hlv,List.length_set];have e1:(gn R.L).set (p*9) (.int .i64 n)=gn (R.L.set p {R.L[p] with node:=n}):=
  lg aw.vals 9 aw.vals_len (.int .i64 n) {R.L[p] with node:=n} R.L p 0 hp (by omega) rfl
 have e2:(gn (R.L.set p {R.L[p] with node:=n})).set (p*9+1) (.int .i64 i)=gn ((R.L.set p {R.L[p] with node:=n}).set p {R.L[p] with node:=n,index:=i}):=
  lg aw.vals 9 aw.vals_len (.int .i64 i) {R.L[p] with node:=n,index:=i} _ p 1 (by simpa using hp) (by omega) (by simp [aw.vals])
 rw [e1,e2,List.set_set] at h2;exact h2
end Go.Proofs.YtdpjgflemddekaaGreatDoor

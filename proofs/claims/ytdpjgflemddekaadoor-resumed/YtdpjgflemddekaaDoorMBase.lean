/- Plain lists and integers for the document's answer, and how its lists lie in memory. Nothing of the program's text. -/
import Derived.WalkKit
import Derived.WalkSpells
import Derived.WalkLawsBesides
namespace Go.Proofs.YtdpjgflemddekaaDoor
open Go.RowKit
structure bo where
 node:Int
 index:Int
 ty:Int
 base:Int
 bits:Int
 rights:Int
 badge:Int
 mark:Int
 up:Int
def bo.vals (e:bo):List Value:=
 [.int .i64 e.node,.int .i64 e.index,.int .i64 e.ty,.int .i64 e.base,.int .i64 e.bits,.int .i64 e.rights,.int .i64 e.badge,.int .i64 e.mark,.int .i64 e.up]
def by_ (L:List bo):List Value:=L.flatMap bo.vals
structure ya where
 base:Int
 bits:Int
def ya.vals (e:ya):List Value:=[.int .i64 e.base,.int .i64 e.bits]
def b84 (L:List ya):List Value:=L.flatMap ya.vals
structure gh where
 base:Int
 state:Int
 root:Int
 value:Int
 badge:Int
 err:Int
def gh.vals (e:gh):List Value:=
 [.int .i64 e.base,.int .i64 e.state,.int .i64 e.root,.int .i64 e.value,.int .i64 e.badge,.int .i64 e.err]
def b55 (L:List gh):List Value:=L.flatMap gh.vals
theorem mn {α:Type}(f:α->List Value)(k:Nat)(hk:∀a,(f a).length=k):
 ∀(L:List α) (i j:Nat) (hi:i<L.length),j<k->(L.flatMap f)[i*k+j]?=(f L[i])[j]?
 | [],i,j,hi,_=>absurd hi (by simp)
 | a :: L,0,j,_,hj=>by
  have:=hk a;simp only [List.flatMap_cons,Nat.zero_mul,Nat.zero_add,List.getElem_cons_zero];exact List.getElem?_append_left (by omega)
 | a :: L,i+1,j,hi,hj=>by
  have h1:=hk a;simp only [List.flatMap_cons,List.getElem_cons_succ];have e:(i+1)*k+j=(f a).length+(i*k+j):=by rw [h1,Nat.add_mul];omega
  rw [e,List.getElem?_append_right (by omega)];have:(f a).length+(i*k+j)-(f a).length=i*k+j:=by omega
  rw [this];exact mn f k hk L i j (by simpa using hi) hj
def jx {α:Type}(w:World)(f:α->List Value)(k:Nat)(v:Value)(L:List α):Prop:=
 ∃A cap,v=.slice A L.length cap/\(0<L.length->∃g,A=some ⟨g,0,none⟩/\
  ∀i (hi:i<L.length) j x,(f L[i])[j]?=some x->w.cell? ⟨g,i*k+j,none⟩=some x)
theorem el {α:Type}{w:World}{f:α->List Value}{k:Nat}(hk:∀a,(f a).length=k){b:Nat}{t:TypeId}{v:Value}{L:List α}
 (h:w.ownsRow b t k v L.length (L.flatMap f)):jx w f k v L:=by
 rcases h.2 with ⟨rfl,hn⟩ | ⟨g,cap,cur,rfl,hb,hg,hnc,hcm,hcs,ht⟩
 ·refine ⟨none,0,by rw [hn],fun h0=>by omega⟩
 ·refine ⟨some ⟨g,0,none⟩,cap,rfl,fun _=>⟨g,rfl,fun i hi j x hx=>?_⟩⟩
  have hj:j<k:=by
   have:=(List.getElem?_eq_some_iff.1 hx).1;rw [hk] at this;exact this
  have hx':=mn f k hk L i j hi hj;rw [hx] at hx';have:=h.cells (g:=g) rfl (i*k+j) x hx';have hadd:(⟨g,0,none⟩:Addr).add (i*k+j)=⟨g,i*k+j,none⟩:=by unfold Addr.add;split<;>simp_all
  rwa [hadd] at this
theorem bo.vals_len (a:bo):a.vals.length=9:=rfl
theorem ya.vals_len (a:ya):a.vals.length=2:=rfl
theorem gh.vals_len (a:gh):a.vals.length=6:=rfl
structure b89 (w:World)(g o:Nat)(e:bo):Prop where
 c0:w.cell? ⟨g,o,none⟩=some (.int .i64 e.node)
 c1:w.cell? ⟨g,o+1,none⟩=some (.int .i64 e.index)
 c2:w.cell? ⟨g,o+2,none⟩=some (.int .i64 e.ty)
 c3:w.cell? ⟨g,o+3,none⟩=some (.int .i64 e.base)
 c4:w.cell? ⟨g,o+4,none⟩=some (.int .i64 e.bits)
 c5:w.cell? ⟨g,o+5,none⟩=some (.int .i64 e.rights)
 c6:w.cell? ⟨g,o+6,none⟩=some (.int .i64 e.badge)
 c7:w.cell? ⟨g,o+7,none⟩=some (.int .i64 e.mark)
 c8:w.cell? ⟨g,o+8,none⟩=some (.int .i64 e.up)
structure b8_ (w:World)(g o:Nat)(e:ya):Prop where
 c0:w.cell? ⟨g,o,none⟩=some (.int .i64 e.base)
 c1:w.cell? ⟨g,o+1,none⟩=some (.int .i64 e.bits)
structure b90 (w:World)(g o:Nat)(e:gh):Prop where
 c0:w.cell? ⟨g,o,none⟩=some (.int .i64 e.base)
 c1:w.cell? ⟨g,o+1,none⟩=some (.int .i64 e.state)
 c2:w.cell? ⟨g,o+2,none⟩=some (.int .i64 e.root)
 c3:w.cell? ⟨g,o+3,none⟩=some (.int .i64 e.value)
 c4:w.cell? ⟨g,o+4,none⟩=some (.int .i64 e.badge)
 c5:w.cell? ⟨g,o+5,none⟩=some (.int .i64 e.err)
theorem o9 (w:World)(a b:Nat):(w.drewN a).drewN b=w.drewN (a+b):=by simp [World.drewN,Nat.add_assoc]
def av1:Option Nat->Int
 | some i=>i
 | none=>-1
theorem bh3 {k:IntKind}{a b:Int}(h:a=b):Ending.returned (.int k a)=.returned (.int k b):=by rw [h]
def fst (p:Nat->Bool):Nat->Nat->Option Nat
 | _,0=>none
 | i,n+1=>if p i then some i else fst p (i+1) n
theorem av6 {α:Type}{p:α->Bool}{L:List α}(h:∀j (hj:j<L.length),p L[j]=false):L.findIdx? p=none:=by
 rw [List.findIdx?_eq_none_iff];intro x hx;obtain ⟨j,hj,rfl⟩:=List.getElem_of_mem hx;exact h j hj
theorem au2 {α:Type}{p:α->Bool}{L:List α}{k:Nat}(hk:k<L.length)(hp:p L[k]=true)(h:∀j (hj:j<k),p (L[j]'(by omega))=false):L.findIdx? p=some k:=by
 rw [List.findIdx?_eq_some_iff_getElem];exact ⟨hk,hp,fun j hj=>by simp [h j hj]⟩
theorem bi1 {α:Type}{p:α->Bool}{L:List α}{k:Nat}(hk:k<L.length)(hno:∀j (hj:j<L.length),j<k->p L[j]=false)(hp:p L[k]=false):∀j (hj:j<L.length),j<k+1->p L[j]=false:=by
 intro j hj hlt;by_cases h:j=k
 ·subst h;exact hp
 ·exact hno j hj (by omega)
theorem a48 {α:Type}{p:α->Bool}{L:List α}{k:Nat}(hk:k<L.length)(hno:∀j (hj:j<L.length),j<k->p L[j]=false)(hp:p L[k]=true):av1 (L.findIdx? p)=(k:Int):=by
 rw [au2 hk hp (fun j hj=>hno j (by omega) hj)];rfl
theorem ai4 {α:Type}{p:α->Bool}{L:List α}{k:Nat}(hk:¬k<L.length)(hno:∀j (hj:j<L.length),j<k->p L[j]=false):av1 (L.findIdx? p)=-1:=by
 rw [av6 (fun j hj=>hno j hj (by omega))];rfl
def fh (nd ix:Int)(e:bo):Bool:=e.node==nd && e.index==ix
def pw (n:Nat):Int:=((2 ^ n:Nat):Int)
theorem b05 (n:Nat):pw (n+1)=2*pw n:=by unfold pw;rw [Nat.pow_succ];omega
theorem gy (n:Nat):1<=pw n:=by unfold pw;have:=Nat.two_pow_pos n;omega
theorem zq {a b:Nat}(h:a<=b):pw a<=pw b:=by unfold pw;have:=Nat.pow_le_pow_right (n:=2) (by omega) h;omega
theorem vi (n:Nat)(h:n<=20):pw n<=1048576:=Int.le_trans (zq h) (by decide)
def ao (b:Int)(t:gh):Bool:=t.base==b
def ek (b:Int)(t:ya):Bool:=t.base==b
def dw (N:List ya)(b:Int):Int:=
 match N.find? (ek b) with
 | some l=>2 ^ (l.bits-2).toNat
 | none=>0
def o6 (N:List ya)(r:Int):Int:=if N.any (ek r) then r else -1
def below (up:Int)(x:bo):Bool:=decide (up<x.up)
def og (L:List bo)(i:Nat)(up:Int):Nat:=i+1+((L.drop (i+1)).takeWhile (below up)).length
theorem jx.drewN {α:Type}{w:World}{f:α->List Value}{k:Nat}{v:Value}{L:List α}(h:jx w f k v L)(q:Nat):jx (w.drewN q) f k v L:=h
theorem ah {w:World}{a:Addr}{v:Value}(h:w.cell? a=some v)(q:Nat):(w.drewN q).cell? a=some v:=h
def c_ (w:World)(v:Value)(l:List Int):Prop:=
 ∃A cap,v=.slice A l.length cap/\(0<l.length->∃g o,A=some ⟨g,o,none⟩/\∀i (hi:i<l.length),w.cell? ⟨g,o+i,none⟩=some (.int .i64 l[i]))
def ac6 (N:List ya)(nd x:Int):Bool:=decide (0<=x) && decide (x<dw N nd)
def rh (L:List bo)(nd x:Int):Option Int:=
 match L.find? (fh nd x) with
 | some e=>if e.ty==2 then some e.base else none
 | none=>none
def goF (L:List bo)(N:List ya):Int->List Int->Option (Int×Int)
 | _,[]=>none
 | nd,[x]=>if ac6 N nd x then some (nd,x) else none
 | nd,x :: y :: r=>if ac6 N nd x then (match rh L nd x with
  | some nd'=>goF L N nd' (y :: r)
  | none=>none) else none
def cp (L:List bo)(N:List ya)(root:Int)(l:List Int):Option (Int×Int):=
 if l.length<1\/3<l.length then none else goF L N root l
theorem bg5 {L:List bo}{N:List ya}{nd x:Int}{r:List Int}(h:ac6 N nd x=false):goF L N nd (x :: r)=none:=by
 cases r<;>simp [goF,h]
theorem bv0 {L:List bo}{N:List ya}{nd x:Int}(h:ac6 N nd x=true):goF L N nd [x]=some (nd,x):=by
 simp [goF,h]
theorem b32 {L:List bo}{N:List ya}{nd x y:Int}{r:List Int}(h:ac6 N nd x=true):goF L N nd (x :: y :: r)=(match rh L nd x with
 | some nd'=>goF L N nd' (y :: r)
 | none=>none):=by
 simp [goF,h]
structure Fr (w w':World)(S:Nat->Prop):Prop where
 os:w'.os=w.os
 tape:w'.tape=w.tape
 output:w'.output=w.output
 size:w.heap.size<=w'.heap.size
 block:∀k,k<w.heap.size->¬S k->w'.heap[k]?=w.heap[k]?
theorem Fr.refl (w:World)(S:Nat->Prop):Fr w w S:=⟨rfl,rfl,rfl,Nat.le_refl _,fun _ _ _=>rfl⟩
theorem Fr.step {w w1 w2:World}{S S2:Nat->Prop}(h:Fr w w1 S)(h2:Fr w1 w2 S2)(hs:∀k,S2 k->S k\/w.heap.size<=k):Fr w w2 S:=by
 refine ⟨h2.os.trans h.os,h2.tape.trans h.tape,h2.output.trans h.output,Nat.le_trans h.size h2.size,fun k hk hn=>?_⟩
 rw [h2.block k (Nat.lt_of_lt_of_le hk h.size) (fun hk2=>by rcases hs k hk2 with h3 | h3;exact hn h3;omega)];exact h.block k hk hn
theorem Fr.mono {w w1:World}{S S2:Nat->Prop}(h:Fr w w1 S)(hs:∀k,S k->S2 k):Fr w w1 S2:=
 ⟨h.os,h.tape,h.output,h.size,fun k hk hn=>h.block k hk (fun h3=>hn (hs k h3))⟩
theorem Fr.alloc {w w1:World}{S:Nat->Prop}(h:Fr w w1 S)(o:Obj):Fr w (w1.alloc o) S:=
 ⟨h.os,h.tape,h.output,by have:=h.size;simp;omega,fun k hk hn=>by rw [heap_alloc_old w1 o (Nat.lt_of_lt_of_le hk h.size)];exact h.block k hk hn⟩
theorem jy (w:World)(b o:Nat)(v:Value)(k:Nat)(hk:k≠b):(w.setCell ⟨b,o,none⟩ v).heap[k]?=w.heap[k]?:=by
 simp [World.setCell,Array.getElem?_modify,Ne.symm hk]
theorem au (w:World)(b o:Nat)(v:Value){c:Array Value}{t:TypeId}{fr:Nat×Nat}(h:w.heap[b]?=some (.cells c t fr)):
 (w.setCell ⟨b,o,none⟩ v).heap[b]?=some (.cells (c.setIfInBounds o v) t fr):=by
 simp [World.setCell,Array.getElem?_modify,h]
theorem y_ (w:World)(a:Addr)(v:Value):(w.setCell a v).heap.size=w.heap.size:=by simp [World.setCell]
theorem Fr.setCell {w w1:World}{S:Nat->Prop}(h:Fr w w1 S){b:Nat}(hb:S b\/w.heap.size<=b)(o:Nat)(v:Value):Fr w (w1.setCell ⟨b,o,none⟩ v) S:=
 ⟨h.os,h.tape,h.output,by rw [y_];exact h.size,fun k hk hn=>by
  rw [jy w1 b o v k (fun e=>by subst e;rcases hb with h3 | h3;exact hn h3;omega)];exact h.block k hk hn⟩
theorem Fr.drewN {w w1:World}{S:Nat->Prop}(h:Fr w w1 S)(q:Nat):Fr w (w1.drewN q) S:=⟨h.os,h.tape,h.output,h.size,h.block⟩
theorem Fr.drew {w w1:World}{S:Nat->Prop}(h:Fr w w1 S):Fr w w1.drew S:=⟨h.os,h.tape,h.output,h.size,h.block⟩
theorem Fr.grown {w w1 w2:World}{S:Nat->Prop}{row:Option Nat}(h:Fr w w1 S)(hg:w1.grownBy w2 row)(hs:∀k,row=some k->S k\/w.heap.size<=k):Fr w w2 S:=
 ⟨hg.os.trans h.os,hg.tape.trans h.tape,hg.output.trans h.output,Nat.le_trans h.size hg.size,fun k hk hn=>by
  rw [hg.block k (Nat.lt_of_lt_of_le hk h.size) (fun e=>by rcases hs k e.symm with h3 | h3;exact hn h3;omega)];exact h.block k hk hn⟩
theorem Fr.same {w w1:World}{S:Nat->Prop}(h:Fr w w1 S){k:Nat}{o:Obj}(hk:w.heap[k]?=some o)(hn:¬S k):w1.heap[k]?=some o:=by
 rw [h.block k (Array.getElem?_eq_some_iff.1 hk).1 hn];exact hk
theorem Fr.cell {w w1:World}{S:Nat->Prop}(h:Fr w w1 S){a:Addr}{v:Value}(hk:w.cell? a=some v)(hn:¬S a.block):w1.cell? a=some v:=
 (World.cell?_of_block (h.block a.block (World.block_lt_of_cell? w a hk) hn)).trans hk
theorem Fr.owns {w w1:World}{S:Nat->Prop}(h:Fr w w1 S){b:Nat}{t:TypeId}{s:Nat}{v:Value}{n:Nat}{xs:List Value}(ho:w.ownsRow b t s v n xs)(hn:∀k,v.ownBlock=some k->¬S k):w1.ownsRow b t s v n xs:=by
 refine ⟨ho.1,?_⟩;rcases ho.2 with hh | ⟨g,cap,cur,rfl,hb,hgg,rest⟩
 ·exact .inl hh
 ·exact .inr ⟨g,cap,cur,rfl,hb,h.same hgg (hn g rfl),rest⟩
theorem aa {w:World}{b o:Nat}{c:Array Value}{t:TypeId}{v:Value}(h:w.heap[b]?=some (.cells c t (0,0)))(hv:c[o]?=some v):w.cell? ⟨b,o,none⟩=some v:=by
 simp [World.cell?,h,hv]
theorem bk5 {w:World}{b:Nat}{t:TypeId}{a0 a1 a2 a3 a4:Value}(h:w.heap[b]?=some (.cells #[a0,a1,a2,a3,a4] t (0,0))):w.cell? ⟨b,0,none⟩=some a0/\w.cell? ⟨b,1,none⟩=some a1/\w.cell? ⟨b,2,none⟩=some a2/\w.cell? ⟨b,3,none⟩=some a3/\w.cell? ⟨b,4,none⟩=some a4:=
 ⟨aa h rfl,aa h rfl,aa h rfl,aa h rfl,aa h rfl⟩
theorem af9 {w:World}{b:Nat}{t:TypeId}{a0 a1 a2 a3 a4 a5:Value}(h:w.heap[b]?=some (.cells #[a0,a1,a2,a3,a4,a5] t (0,0))):w.cell? ⟨b,0,none⟩=some a0/\w.cell? ⟨b,1,none⟩=some a1/\w.cell? ⟨b,2,none⟩=some a2/\w.cell? ⟨b,3,none⟩=some a3/\w.cell? ⟨b,4,none⟩=some a4/\w.cell? ⟨b,5,none⟩=some a5:=
 ⟨aa h rfl,aa h rfl,aa h rfl,aa h rfl,aa h rfl,aa h rfl⟩
theorem zi {w:World}{b:Nat}{t:TypeId}{a0 a1 a2 a3 a4 a5 a6 a7 a8 a9:Value}(h:w.heap[b]?=some (.cells #[a0,a1,a2,a3,a4,a5,a6,a7,a8,a9] t (0,0))):w.cell? ⟨b,0,none⟩=some a0/\w.cell? ⟨b,1,none⟩=some a1/\w.cell? ⟨b,2,none⟩=some a2/\w.cell? ⟨b,3,none⟩=some a3/\w.cell? ⟨b,4,none⟩=some a4/\w.cell? ⟨b,5,none⟩=some a5/\w.cell? ⟨b,6,none⟩=some a6/\w.cell? ⟨b,7,none⟩=some a7/\w.cell? ⟨b,8,none⟩=some a8/\w.cell? ⟨b,9,none⟩=some a9:=
 ⟨aa h rfl,aa h rfl,aa h rfl,aa h rfl,aa h rfl,aa h rfl,aa h rfl,aa h rfl,aa h rfl,aa h rfl⟩
theorem ae {w:World}{b o:Nat}{c:Array Value}{t:TypeId}(h:w.heap[b]?=some (.cells c t (0,0))):w.frozen? ⟨b,o,none⟩=false:=by
 simp [World.frozen?,h]
structure jh where
 L:List bo
 N:List ya
 T:List gh
structure ad5 where
 lv:Value
 nv:Value
 tv:Value
 qv:Value
 dv:Value
 bv:Value
 sv:Value
 ws:Nat->Int
def ad5.fp (kb:Nat)(V:ad5)(k:Nat):Prop:=k=kb\/V.lv.ownBlock=some k\/V.nv.ownBlock=some k\/V.tv.ownBlock=some k
structure bx5 (V:ad5)(c:Array Value):Prop where
 size:c.size=1031
 l:c[0]?=some V.lv
 w:∀i,i<1024->c[i+1]?=some (.int .i64 (V.ws i))
 n:c[1025]?=some V.nv
 t:c[1026]?=some V.tv
 q:c[1027]?=some V.qv
 d:c[1028]?=some V.dv
 b:c[1029]?=some V.bv
 s:c[1030]?=some V.sv
structure lx (w:World)(kb:Nat)(R:jh)(V:ad5):Prop where
 blk:∃c,w.heap[kb]?=some (.cells c 3 (0,0))/\bx5 V c
 l:w.ownsRow 0 3 9 V.lv R.L.length (by_ R.L)
 n:w.ownsRow 0 3 2 V.nv R.N.length (b84 R.N)
 t:w.ownsRow 0 3 6 V.tv R.T.length (b55 R.T)
 kl:V.lv.ownBlock≠some kb
 kn:V.nv.ownBlock≠some kb
 kt:V.tv.ownBlock≠some kb
 ln:∀k,V.lv.ownBlock=some k->V.nv.ownBlock≠some k
 lt:∀k,V.lv.ownBlock=some k->V.tv.ownBlock≠some k
 nt:∀k,V.nv.ownBlock=some k->V.tv.ownBlock≠some k
theorem lx.fpLt {w:World}{kb:Nat}{R:jh}{V:ad5}(h:lx w kb R V){k:Nat}(hk:V.fp kb k):k<w.heap.size:=by
 obtain ⟨c,hc,_⟩:=h.blk;rcases hk with rfl | hk | hk | hk
 ·exact (Array.getElem?_eq_some_iff.1 hc).1
 ·exact (h.l.lt k hk).2
 ·exact (h.n.lt k hk).2
 ·exact (h.t.lt k hk).2
theorem lx.frame {w w':World}{kb:Nat}{R:jh}{V:ad5}{S:Nat->Prop}(h:lx w kb R V)(hf:Fr w w' S)(hs:∀k,V.fp kb k->¬S k):lx w' kb R V:=by
 obtain ⟨c,hc,hcc⟩:=h.blk;exact ⟨⟨c,hf.same hc (hs _ (.inl rfl)),hcc⟩,hf.owns h.l (fun k hk=>hs k (.inr (.inl hk))),hf.owns h.n (fun k hk=>hs k (.inr (.inr (.inl hk)))),
  hf.owns h.t (fun k hk=>hs k (.inr (.inr (.inr hk)))),h.kl,h.kn,h.kt,h.ln,h.lt,h.nt⟩
theorem lx.cl {w:World}{kb:Nat}{R:jh}{V:ad5}(h:lx w kb R V):w.cell? ⟨kb,0,none⟩=some V.lv:=by
 obtain ⟨c,hc,hcc⟩:=h.blk;exact aa hc hcc.l
theorem lx.cn {w:World}{kb:Nat}{R:jh}{V:ad5}(h:lx w kb R V):w.cell? ⟨kb,1025,none⟩=some V.nv:=by
 obtain ⟨c,hc,hcc⟩:=h.blk;exact aa hc hcc.n
theorem lx.ct {w:World}{kb:Nat}{R:jh}{V:ad5}(h:lx w kb R V):w.cell? ⟨kb,1026,none⟩=some V.tv:=by
 obtain ⟨c,hc,hcc⟩:=h.blk;exact aa hc hcc.t
theorem lx.fz {w:World}{kb:Nat}{R:jh}{V:ad5}(h:lx w kb R V)(o:Nat):w.frozen? ⟨kb,o,none⟩=false:=by
 obtain ⟨c,hc,hcc⟩:=h.blk;exact ae hc
theorem lx.ll {w:World}{kb:Nat}{R:jh}{V:ad5}(h:lx w kb R V):jx w bo.vals 9 V.lv R.L:=el bo.vals_len h.l
theorem am_ (g o j:Nat):(⟨g,o,none⟩:Addr).add j=⟨g,o+j,none⟩:=by unfold Addr.add;split<;>simp_all
theorem bo.one (a:bo):∀u∈a.vals,u.oneCell'=true:=by intro u hu;simp [bo.vals] at hu;rcases hu with rfl | rfl | rfl | rfl | rfl | rfl | rfl | rfl | rfl<;>rfl
theorem ya.one (a:ya):∀u∈a.vals,u.oneCell'=true:=by intro u hu;simp [ya.vals] at hu;rcases hu with rfl | rfl<;>rfl
theorem gh.one (a:gh):∀u∈a.vals,u.oneCell'=true:=by intro u hu;simp [gh.vals] at hu;rcases hu with rfl | rfl | rfl | rfl | rfl | rfl<;>rfl
theorem p6 (w:World)(cs:List Value)(t:TypeId):∀j u,cs[j]?=some u->(w.alloc (.cells cs.toArray t)).cell? ((⟨w.heap.size,0,none⟩:Addr).add j)=some u:=by
 intro j u hu;rw [am_];refine aa (heap_alloc_new _ _) ?_;simpa using hu
theorem bi0 (w:World)(cs:List Value)(t:TypeId)(n:Nat)(hn:w.heap.size=n):∀j u,cs[j]?=some u->(w.alloc (.cells cs.toArray t)).cell? ((⟨n,0,none⟩:Addr).add j)=some u:=by
 subst hn;exact p6 w cs t
theorem aq7 {w:World}{b b' t s n:Nat}{v:Value}{xs:List Value}(h:w.ownsRow b t s v n xs)(hb:b'<=b):w.ownsRow b' t s v n xs:=by
 refine ⟨h.1,?_⟩;rcases h.2 with h2 | ⟨g,cap,cur,hv,hbb,rest⟩
 ·exact .inl h2
 ·exact .inr ⟨g,cap,cur,hv,Nat.le_trans hb hbb,rest⟩
theorem w8 {w:World}{b t s n:Nat}{v:Value}{xs:List Value}(h:w.ownsRow b t s v n xs)(hn:0<n):∃g cap,v=.slice (some ⟨g,0,none⟩) n cap/\n<=cap/\cap<=maxLen/\g<w.heap.size:=by
 rcases h.2 with ⟨_,h0⟩ | ⟨g,cap,cur,hv,hb,hg,hnc,hcm,_⟩
 ·omega
 ·exact ⟨g,cap,hv,hnc,hcm,(Array.getElem?_eq_some_iff.1 hg).1⟩
def uf (L:List bo)(i:Nat)(up:Int)(e:bo):List bo:=
 L.take (og L i up)++{e with up:=up+1} :: L.drop (og L i up)
structure ee where
 node:Int
 index:Int
 ty:Int
 base:Int
 bits:Int
 rights:Int
 badge:Int
 mark:Int
 parent:Int
 place:Int
def ee.vals (e:ee):List Value:=
 [.int .i64 e.node,.int .i64 e.index,.int .i64 e.ty,.int .i64 e.base,.int .i64 e.bits,.int .i64 e.rights,.int .i64 e.badge,.int .i64 e.mark,.int .i64 e.parent,.int .i64 e.place]
def ai6 (L:List ee):List Value:=L.flatMap ee.vals
theorem ee.vals_len (a:ee):a.vals.length=10:=rfl
theorem ee.one (a:ee):∀u∈a.vals,u.oneCell'=true:=by intro u hu;simp [ee.vals] at hu;rcases hu with rfl | rfl | rfl | rfl | rfl | rfl | rfl | rfl | rfl | rfl<;>rfl
def par (L:List bo)(up:Int):Nat->Int×Int
 | 0=>(-1,-1)
 | p+1=>match L[p]? with
  | some e=>if e.up=up-1 then (e.node,e.index) else par L up p
  | none=>par L up p
def aw3 (L:List bo)(i:Nat)(e:bo):ee:=
 ⟨e.node,e.index,e.ty,e.base,e.bits,e.rights,e.badge,e.mark,(par L e.up i).1,(par L e.up i).2⟩
def jm (L:List bo):Nat->List ee
 | 0=>[]
 | k+1=>jm L k++(match L[k]? with
  | some e=>[aw3 L k e]
  | none=>[])
theorem ae6 (L:List bo)(k:Nat)(hk:k<L.length):jm L (k+1)=jm L k++[aw3 L k L[k]]:=by
 simp [jm,hk]
theorem tj (L:List bo):∀k,k<=L.length->(jm L k).length=k
 | 0,_=>rfl
 | k+1,h=>by rw [ae6 L k (by omega)];simp [tj L k (by omega)]
theorem bf4 (L:List bo)(up:Int)(m:Nat)(hm:m<L.length)(h:L[m].up=up-1):par L up (m+1)=(L[m].node,L[m].index):=by
 simp [par,hm,h]
theorem ak3 (L:List bo)(up:Int)(m:Nat)(hm:m<L.length)(h:¬L[m].up=up-1):par L up (m+1)=par L up m:=by
 simp [par,hm,h]
structure Cl where
 kind:Int
 at_:List Int
 to:List Int
 ty:Int
 bits:Int
 count:Int
 rights:Int
 badge:Int
 value:Int
 offset:Int
def Cl.cells (c:Cl)(av tv:Value):Array Value:=
 #[.int .i64 c.kind,av,tv,.int .i64 c.ty,.int .i64 c.bits,.int .i64 c.count,.int .i64 c.rights,.int .i64 c.badge,.int .i64 c.value,.int .i64 c.offset]
def fy (a b:Int):Int:=Go.bits BinOp.and IntKind.i64 a b
def fw (R:jh)(root:Int)(c:Cl)(p:Nat)(e:bo):Int×List bo:=
 if c.kind=2/\e.ty=1\/c.kind=3/\e.ty≠3 then (3,R.L)
 else if c.kind=3/\e.badge≠0 then (5,R.L)
 else if (c.kind≠4/\(c.rights<0\/7<c.rights))\/(c.kind=3/\(c.badge<1\/65535<c.badge)) then (7,R.L)
 else match cp R.L R.N root c.to with
  | none=>(2,R.L)
  | some (n,i)=>
   if (R.L.find? (fh n i)).isSome then (4,R.L)
   else if c.kind=4 then (0,R.L.set p {e with node:=n,index:=i})
   else (0,uf R.L p e.up {e with node:=n,index:=i,rights:=fy e.rights c.rights,badge:=if c.kind=3 then c.badge else e.badge,up:=0})
theorem vt {α:Type}(f:α->List Value)(k:Nat)(hk:∀a,(f a).length=k)(v:Value)(a':α):
 ∀(L:List α) (p j:Nat) (hp:p<L.length),j<k->f a'=(f L[p]).set j v->(L.flatMap f).set (p*k+j) v=(L.set p a').flatMap f
 | [],p,j,hp,_,_=>absurd hp (by simp)
 | a :: L,0,j,_,hj,h=>by
  simp only [List.getElem_cons_zero] at h;simp only [List.flatMap_cons,Nat.zero_mul,Nat.zero_add,List.set_cons_zero,h];rw [List.set_append_left _ _ (by rw [hk a];exact hj)]
 | a :: L,p+1,j,hp,hj,h=>by
  simp only [List.getElem_cons_succ] at h;simp only [List.flatMap_cons,List.set_cons_succ];have e:(p+1)*k+j=(f a).length+(p*k+j):=by rw [hk a,Nat.add_mul];omega
  rw [e,List.set_append_right _ _ (by omega)];have e2:(f a).length+(p*k+j)-(f a).length=p*k+j:=by omega
  rw [e2,vt f k hk v a' L p j (by simpa using hp) hj h]
theorem yv {w:World}{b t s g n cap:Nat}{xs:List Value}(h:w.ownsRow b t s (.slice (some ⟨g,0,none⟩) n cap) n xs)(o:Nat)(v:Value):
 (w.setCell ⟨g,o,none⟩ v).ownsRow b t s (.slice (some ⟨g,0,none⟩) n cap) n (xs.set o v):=by
 refine ⟨by rw [List.length_set];exact h.1,?_⟩;rcases h.2 with ⟨h0,_⟩ | ⟨g',cap',cur,hv,hb,hg,hn,hcm,hcs,ht⟩
 ·cases h0
 ·cases hv
  refine .inr ⟨g,cap,_,rfl,hb,au w g o v hg,hn,hcm,by simpa using hcs,?_⟩;rw [<- ht,Array.toList_setIfInBounds,List.take_set]
theorem c_.fr {w w':World}{v:Value}{l:List Int}{S:Nat->Prop}(h:c_ w v l)(hf:Fr w w' S)(hs:∀k,v.ownBlock=some k->¬S k):c_ w' v l:=by
 obtain ⟨A,cap,rfl,hA⟩:=h;refine ⟨A,cap,rfl,fun h0=>?_⟩
 obtain ⟨g,o,rfl,hc⟩:=hA h0;exact ⟨g,o,rfl,fun i hi=>hf.cell (hc i hi) (hs g rfl)⟩
end Go.Proofs.YtdpjgflemddekaaDoor

/- Retype of the document's answer as a plain function. -/
import Derived.Test.YtdpjgflemddekaaGreatDoorMBase
import Derived.Deep.AppendLies
namespace Go.Proofs.YtdpjgflemddekaaGreatDoor
open Go.RowKit
def yr:Nat->Int
 | 1=>4
 | 2=>3
 | 3=>2
 | 4=>4
 | 5=>2
 | _=>0
def ak5:Nat->Int
 | 1=>10
 | 2=>6
 | 3=>2
 | 4=>4
 | 5=>6
 | _=>0
def rh (c:Cl):Bool:=decide (1<=c.ty/\c.ty<=5/\yr c.ty.toNat<=c.bits/\c.bits<=ak5 c.ty.toNat/\1<=c.count/\c.count<=8)
def nu (s z:Int):Int:=if s % z=0 then s else s-s % z+z
def jl (R1:dq)(root:Int)(p:Nat)(up n ix:Int)(c:Cl)(s:Int):Nat->dq
 | 0=>R1
 | i+1=>
  {L:=ns (jl R1 root p up n ix c s i).L p up ⟨n,ix+i,c.ty,s+i*pw c.bits.toNat,c.bits,7,0,0,0⟩
   N:=if c.ty=2 then (jl R1 root p up n ix c s i).N++[⟨s+i*pw c.bits.toNat,c.bits⟩] else (jl R1 root p up n ix c s i).N
   T:=if c.ty=4 then (jl R1 root p up n ix c s i).T++[⟨s+i*pw c.bits.toNat,1,root,0,0,0⟩] else (jl R1 root p up n ix c s i).T}
def ko (L:List aw)(n ix:Int)(k:Nat):Bool:=(List.range k).any fun i=>(L.find? (ee n (ix+i))).isSome
def ji (c:Cl)(e:aw):Int:=nu (e.base+e.mark) (pw c.bits.toNat)
def retype (R:dq)(root:Int)(c:Cl)(p:Nat)(e:aw):Int×dq:=
 if e.ty≠1 then (3,R)
 else if rh c=false then (7,R)
 else match bk R.L R.N root c.to with
  | none=>(2,R)
  | some (n,ix)=>
   if bf R.N n<ix+c.count then (2,R)
   else if ko R.L n ix c.count.toNat then (4,R)
   else if e.base+pw e.bits.toNat<ji c e+c.count*pw c.bits.toNat then (6,R)
   else (0,jl {R with L:=R.L.set p {e with mark:=ji c e+c.count*pw c.bits.toNat-e.base}} root p e.up n ix c (ji c e) c.count.toNat)
theorem b58 (w:World)(a b c d:Obj):((((w.alloc a).alloc b).alloc c).alloc d).heap[w.heap.size]?=some a/\((((w.alloc a).alloc b).alloc c).alloc d).heap[w.heap.size+1]?=some b/\
 ((((w.alloc a).alloc b).alloc c).alloc d).heap[w.heap.size+2]?=some c/\((((w.alloc a).alloc b).alloc c).alloc d).heap[w.heap.size+3]?=some d:=by
 have s1:(w.alloc a).heap.size=w.heap.size+1:=by simp
 have s2:((w.alloc a).alloc b).heap.size=w.heap.size+2:=by simp
 have s3:(((w.alloc a).alloc b).alloc c).heap.size=w.heap.size+3:=by simp
 refine ⟨?_,?_,?_,?_⟩
 ·rw [heap_alloc_old _ _ (by omega),heap_alloc_old _ _ (by omega),heap_alloc_old _ _ (by omega)];exact heap_alloc_new _ _
 ·rw [heap_alloc_old _ _ (by omega),heap_alloc_old _ _ (by omega),<- s1];exact heap_alloc_new _ _
 ·rw [heap_alloc_old _ _ (by omega),<- s2];exact heap_alloc_new _ _
 ·rw [<- s3];exact heap_alloc_new _ _
theorem by6 {L:List aw}{N:List pp}:∀{l:List Int} {nd n ix:Int},goF L N nd l=some (n,ix)->pt N n ix=true
 | [],_,_,_,h=>by simp [goF] at h
 | [x],nd,n,ix,h=>by
  by_cases hx:pt N nd x=true
  ·rw [a59 hx] at h;cases h;exact hx
  ·rw [xl (by simpa using hx)] at h;cases h
 | x :: y :: r,nd,n,ix,h=>by
  by_cases hx:pt N nd x=true
  ·rw [av3 hx] at h;cases hn:u_ L nd x with
   | none=>rw [hn] at h;cases h
   | some nd'=>rw [hn] at h;exact by6 (l:=y :: r) h
  ·rw [xl (by simpa using hx)] at h;cases h
theorem an3 {L:List aw}{N:List pp}{l:List Int}{root n ix:Int}(h:bk L N root l=some (n,ix)):0<=ix/\ix<bf N n:=by
 unfold bk at h;split at h
 ·cases h
 ·have:=by6 h;simpa [pt] using this
theorem bu1 {N:List pp}(hb:∀l∈N,0<=l.bits/\l.bits<=20)(n:Int):bf N n<=1048576:=by
 unfold bf;split
 ·rename_i l hl;have:=hb l (List.mem_of_find?_eq_some hl);have h2:=ag9 (l.bits-2).toNat (by omega);simp [pw] at h2;exact h2
 ·omega
theorem a31 (L:List aw)(n ix:Int)(k:Nat):ko L n ix (k+1)=(ko L n ix k || (L.find? (ee n (ix+k))).isSome):=by
 simp [ko,List.range_succ]
theorem ao8 {L:List aw}{n ix:Int}{k m:Nat}(hk:k<m)(h:(L.find? (ee n (ix+k))).isSome=true):ko L n ix m=true:=by
 unfold ko;rw [List.any_eq_true];exact ⟨k,List.mem_range.2 hk,h⟩
theorem av7 (L:List aw)(i:Nat)(up:Int):i<ie L i up:=by unfold ie;omega
theorem ac_ (L:List aw)(i:Nat)(up:Int)(hi:i<L.length):ie L i up<=L.length:=by
 unfold ie;have:=(List.takeWhile_sublist (below up) (l:=L.drop (i+1))).length_le;simp at this;omega
theorem bs3 (L:List aw)(i:Nat)(up:Int)(e:aw)(hi:i<L.length):(ns L i up e).length=L.length+1:=by
 have:=ac_ L i up hi;unfold ns;simp;omega
theorem a40 (L:List aw)(i:Nat)(up:Int)(e:aw)(hi:i<L.length):(ns L i up e)[i]?=some L[i]:=by
 have h1:=av7 L i up;have h2:=ac_ L i up hi;unfold ns;rw [List.getElem?_append_left (by simp;omega),List.getElem?_take];simp [h1,hi]
theorem bp2 (R1:dq)(root:Int)(p:Nat)(up n ix:Int)(c:Cl)(s:Int)(hp:p<R1.L.length):∀i,(jl R1 root p up n ix c s i).L.length=R1.L.length+i/\(jl R1 root p up n ix c s i).L[p]?=some R1.L[p]
 | 0=>⟨rfl,by simp [jl,hp]⟩
 | i+1=>by
  obtain ⟨h1,h2⟩:=bp2 R1 root p up n ix c s hp i;have hp':p<(jl R1 root p up n ix c s i).L.length:=by omega
  refine ⟨?_,?_⟩
  ·simp only [jl];rw [bs3 _ _ _ _ hp'];omega
  ·simp only [jl];rw [a40 _ _ _ _ hp'];rw [List.getElem?_eq_getElem hp'] at h2;exact h2
theorem bz4 (R1:dq)(root:Int)(p:Nat)(up n ix:Int)(c:Cl)(s:Int):∀i,(jl R1 root p up n ix c s i).N.length<=R1.N.length+i/\(jl R1 root p up n ix c s i).T.length<=R1.T.length+i
 | 0=>⟨Nat.le_refl _,Nat.le_refl _⟩
 | i+1=>by
  obtain ⟨h1,h2⟩:=bz4 R1 root p up n ix c s i;simp only [jl];constructor
  ·split
   ·simp;omega
   ·omega
  ·split
   ·simp;omega
   ·omega
theorem bh1 (R1:dq)(root:Int)(p:Nat)(up n ix:Int)(c:Cl)(s:Int):∀i,R1.N.length<=(jl R1 root p up n ix c s i).N.length/\R1.T.length<=(jl R1 root p up n ix c s i).T.length
 | 0=>⟨Nat.le_refl _,Nat.le_refl _⟩
 | i+1=>by
  obtain ⟨h1,h2⟩:=bh1 R1 root p up n ix c s i;simp only [jl];constructor
  ·split
   ·simp;omega
   ·omega
  ·split
   ·simp;omega
   ·omega
theorem ai0 (s z:Int)(hz:0<z):s<=nu s z:=by
 unfold nu;have:=Int.emod_lt_of_pos s hz;split<;>omega
theorem bh5 (s z:Int)(hz:0<z):nu s z<s+z:=by
 unfold nu;have:=Int.emod_nonneg s (Int.ne_of_gt hz);split<;>omega
theorem br2 (s z:Int)(h:s % z=0):nu s z=s:=if_pos h
theorem as4 (s z:Int)(hz:0<z)(h:¬s % z=0):nu (s+1) z=nu s z:=by
 have h2:=Int.emod_nonneg s (Int.ne_of_gt hz);have h3:=Int.emod_lt_of_pos s hz;have h4:=Int.emod_add_mul_ediv s z;have e:s+1=(s % z+1)+z*(s / z):=by omega
 have e2:(s+1) % z=(s % z+1) % z:=by
  conv=>lhs;rw [e]
  exact Int.add_mul_emod_self_left _ _ _
 unfold nu;rw [if_neg h,e2];by_cases hl:s % z+1=z
 ·rw [hl,Int.emod_self,if_pos rfl];omega
 ·rw [Int.emod_eq_of_lt (by omega) (by omega),if_neg (by omega)];omega
theorem aj.setMark {w:World}{kb:Nat}{R:dq}{V:ax}(h:aj w kb R V){g cap p:Nat}(hp:p<R.L.length)(hlv:V.lv=.slice (some ⟨g,0,none⟩) R.L.length cap)(m:Int):
 aj (w.setCell ⟨g,p*9+7,none⟩ (.int .i64 m)) kb {R with L:=R.L.set p {R.L[p] with mark:=m}} V:=by
 have hl:=h.l;rw [hlv] at hl;have h2:=eh hl (p*9+7) (.int .i64 m);have hf:Fr w (w.setCell ⟨g,p*9+7,none⟩ (.int .i64 m)) (fun k=>k=g):=
  Fr.setCell (S:=fun k=>k=g) (Fr.refl _ _) (.inl rfl) _ _
 have hgl:V.lv.ownBlock=some g:=by rw [hlv];rfl
 obtain ⟨cc,hc,hcc⟩:=h.blk;refine ⟨⟨cc,hf.same hc (fun e=>h.kl (by rw [hgl,e])),hcc⟩,?_,hf.owns h.n (fun k hk e=>h.ln g hgl (by rw [<- e];exact hk)),hf.owns h.t (fun k hk e=>h.lt g hgl (by rw [<- e];exact hk)),h.kl,h.kn,h.kt,h.ln,h.lt,h.nt⟩
 show World.ownsRow _ 0 108 9 V.lv (R.L.set p {R.L[p] with mark:=m}).length (gn (R.L.set p {R.L[p] with mark:=m}));rw [hlv,List.length_set];have e1:(gn R.L).set (p*9+7) (.int .i64 m)=gn (R.L.set p {R.L[p] with mark:=m}):=
  lg aw.vals 9 aw.vals_len (.int .i64 m) {R.L[p] with mark:=m} R.L p 7 hp (by omega) rfl
 rw [e1] at h2;exact h2
theorem aj.setN {w w':World}{kb:Nat}{R:dq}{V:ax}(h:aj w kb R V){nv':Value}{N':List pp}(hw:w'=w.setCell ⟨kb,1025,none⟩ nv')
 (ho:w.ownsRow 0 110 2 nv' N'.length (ap6 N')) (hn:∀k,nv'.ownBlock=some k->V.lv.ownBlock≠some k/\V.tv.ownBlock≠some k/\k≠kb) :
 aj w' kb {R with N:=N'} {V with nv:=nv'}:=by
 subst hw;have hf:Fr w (w.setCell ⟨kb,1025,none⟩ nv') (fun k=>k=kb):=Fr.setCell (S:=fun k=>k=kb) (Fr.refl _ _) (.inl rfl) _ _;obtain ⟨c,hc,hcc⟩:=h.blk;refine ⟨⟨_,ak w kb 1025 nv' hc,?_⟩,hf.owns h.l (fun k hk e=>h.kl (e▸hk)),hf.owns ho (fun k hk e=>(hn k hk).2.2 e),hf.owns h.t (fun k hk e=>h.kt (e▸hk)),
  h.kl,fun e=>(hn kb e).2.2 rfl,h.kt,fun k hk hk2=>(hn k hk2).1 hk,h.lt,fun k hk=>(hn k hk).2.1⟩
 obtain ⟨c0,c1,c2,c3,c4,c5,c6,c7,c8⟩:=hcc;refine ⟨by simpa using c0,?_,?_,by simp [c0],?_,?_,?_,?_,?_⟩
 ·rw [Array.getElem?_setIfInBounds_ne (by omega)];exact c1
 ·intro i hi;rw [Array.getElem?_setIfInBounds_ne (by omega)];exact c2 i hi
 all_goals (rw [Array.getElem?_setIfInBounds_ne (by omega)];assumption)
theorem aj.setT {w w':World}{kb:Nat}{R:dq}{V:ax}(h:aj w kb R V){tv':Value}{T':List ej}(hw:w'=w.setCell ⟨kb,1026,none⟩ tv')
 (ho:w.ownsRow 0 112 6 tv' T'.length (xz T')) (hn:∀k,tv'.ownBlock=some k->V.lv.ownBlock≠some k/\V.nv.ownBlock≠some k/\k≠kb) :
 aj w' kb {R with T:=T'} {V with tv:=tv'}:=by
 subst hw;have hf:Fr w (w.setCell ⟨kb,1026,none⟩ tv') (fun k=>k=kb):=Fr.setCell (S:=fun k=>k=kb) (Fr.refl _ _) (.inl rfl) _ _;obtain ⟨c,hc,hcc⟩:=h.blk;refine ⟨⟨_,ak w kb 1026 tv' hc,?_⟩,hf.owns h.l (fun k hk e=>h.kl (e▸hk)),hf.owns h.n (fun k hk e=>h.kn (e▸hk)),hf.owns ho (fun k hk e=>(hn k hk).2.2 e),
  h.kl,h.kn,fun e=>(hn kb e).2.2 rfl,h.ln,fun k hk hk2=>(hn k hk2).1 hk,fun k hk hk2=>(hn k hk2).2.1 hk⟩
 obtain ⟨c0,c1,c2,c3,c4,c5,c6,c7,c8⟩:=hcc;refine ⟨by simpa using c0,?_,?_,?_,by simp [c0],?_,?_,?_,?_⟩
 ·rw [Array.getElem?_setIfInBounds_ne (by omega)];exact c1
 ·intro i hi;rw [Array.getElem?_setIfInBounds_ne (by omega)];exact c2 i hi
 all_goals (rw [Array.getElem?_setIfInBounds_ne (by omega)];assumption)
theorem aj.pushT {w w8:World}{kb:Nat}{R:dq}{V:ax}{o:Obj}(h:aj w kb R V)(hg:(w.alloc o).grownBy w8 V.tv.ownBlock){g8 cap8 n8:Nat}{x:ej}
 (hn8:n8=R.T.length+1) (hown:w8.ownsRow 0 112 6 (.slice (some ⟨g8,0,none⟩) n8 cap8) n8 (xz R.T++x.vals)) (hat:V.tv.ownBlock=some g8\/g8=w.heap.size+1) :
 aj (w8.setCell ⟨kb,1026,none⟩ (.slice (some ⟨g8,0,none⟩) n8 cap8)) kb {R with T:=R.T++[x]} {V with tv:=.slice (some ⟨g8,0,none⟩) n8 cap8}:=by
 subst hn8;have hf:Fr w w8 (fun r=>V.tv.ownBlock=some r):=((Fr.refl w (fun r=>V.tv.ownBlock=some r)).alloc o).grown hg (fun k hk=>.inl hk);obtain ⟨c,hc,hcc⟩:=h.blk;have hc8:=hf.same hc h.kt;have hl8:=hf.owns h.l (fun k hk e=>h.lt k hk e);have hn8:=hf.owns h.n (fun k hk e=>h.nt k hk e);have hfresh:∀k,k<w.heap.size->k=g8->V.tv.ownBlock=some k:=by
  intro k hk e;rcases hat with h1 | h1
  ·rw [e];exact h1
  ·omega
 have hg8:∀k,(Value.slice (some ⟨g8,0,none⟩) (R.T.length+1) cap8).ownBlock=some k->k=g8:=by intro k hk;cases hk;rfl
 have hkk:kb<w.heap.size:=(Array.getElem?_eq_some_iff.1 hc).1;have hfs:Fr w8 (w8.setCell ⟨kb,1026,none⟩ (.slice (some ⟨g8,0,none⟩) (R.T.length+1) cap8)) (fun k=>k=kb):=Fr.setCell (S:=fun k=>k=kb) (Fr.refl _ _) (.inl rfl) _ _;refine ⟨⟨_,ak w8 kb 1026 _ hc8,?_⟩,hfs.owns hl8 (fun k hk e=>h.kl (e▸hk)),hfs.owns hn8 (fun k hk e=>h.kn (e▸hk)),?_,h.kl,h.kn,?_,h.ln,?_,?_⟩
 ·obtain ⟨c0,c1,c2,c3,c4,c5,c6,c7,c8⟩:=hcc;refine ⟨by simpa using c0,?_,?_,?_,by simp [c0],?_,?_,?_,?_⟩
  ·rw [Array.getElem?_setIfInBounds_ne (by omega)];exact c1
  ·intro i hi;rw [Array.getElem?_setIfInBounds_ne (by omega)];exact c2 i hi
  all_goals (rw [Array.getElem?_setIfInBounds_ne (by omega)];assumption)
 ·have e1:(R.T++[x]).length=R.T.length+1:=by simp
  have e2:xz (R.T++[x])=xz R.T++x.vals:=by simp [xz]
  show World.ownsRow _ 0 _ 6 _ (R.T++[x]).length (xz (R.T++[x]));rw [e1,e2];exact hfs.owns hown (fun k hk e=>h.kt (hfresh kb hkk (by rw [<- e];exact hg8 k hk)))
 ·intro e;exact h.kt (hfresh kb hkk (hg8 kb e))
 ·intro k hk e;exact h.lt k hk (hfresh k (h.l.lt k hk).2 (hg8 k e))
 ·intro k hk e;exact h.nt k hk (hfresh k (h.n.lt k hk).2 (hg8 k e))
theorem aj.pushN {w w8:World}{kb:Nat}{R:dq}{V:ax}{o:Obj}(h:aj w kb R V)(hg:(w.alloc o).grownBy w8 V.nv.ownBlock){g8 cap8 n8:Nat}{x:pp}
 (hn8:n8=R.N.length+1) (hown:w8.ownsRow 0 110 2 (.slice (some ⟨g8,0,none⟩) n8 cap8) n8 (ap6 R.N++x.vals)) (hat:V.nv.ownBlock=some g8\/g8=w.heap.size+1) :
 aj (w8.setCell ⟨kb,1025,none⟩ (.slice (some ⟨g8,0,none⟩) n8 cap8)) kb {R with N:=R.N++[x]} {V with nv:=.slice (some ⟨g8,0,none⟩) n8 cap8}:=by
 subst hn8;have hf:Fr w w8 (fun r=>V.nv.ownBlock=some r):=((Fr.refl w (fun r=>V.nv.ownBlock=some r)).alloc o).grown hg (fun k hk=>.inl hk);obtain ⟨c,hc,hcc⟩:=h.blk;have hc8:=hf.same hc h.kn;have hl8:=hf.owns h.l (fun k hk e=>h.ln k hk e);have ht8:=hf.owns h.t (fun k hk e=>h.nt k e hk);have hfresh:∀k,k<w.heap.size->k=g8->V.nv.ownBlock=some k:=by
  intro k hk e;rcases hat with h1 | h1
  ·rw [e];exact h1
  ·omega
 have hg8:∀k,(Value.slice (some ⟨g8,0,none⟩) (R.N.length+1) cap8).ownBlock=some k->k=g8:=by intro k hk;cases hk;rfl
 have hkk:kb<w.heap.size:=(Array.getElem?_eq_some_iff.1 hc).1;have hfs:Fr w8 (w8.setCell ⟨kb,1025,none⟩ (.slice (some ⟨g8,0,none⟩) (R.N.length+1) cap8)) (fun k=>k=kb):=Fr.setCell (S:=fun k=>k=kb) (Fr.refl _ _) (.inl rfl) _ _;refine ⟨⟨_,ak w8 kb 1025 _ hc8,?_⟩,hfs.owns hl8 (fun k hk e=>h.kl (e▸hk)),?_,hfs.owns ht8 (fun k hk e=>h.kt (e▸hk)),h.kl,?_,h.kt,?_,h.lt,?_⟩
 ·obtain ⟨c0,c1,c2,c3,c4,c5,c6,c7,c8⟩:=hcc;refine ⟨by simpa using c0,?_,?_,by simp [c0],?_,?_,?_,?_,?_⟩
  ·rw [Array.getElem?_setIfInBounds_ne (by omega)];exact c1
  ·intro i hi;rw [Array.getElem?_setIfInBounds_ne (by omega)];exact c2 i hi
  all_goals (rw [Array.getElem?_setIfInBounds_ne (by omega)];assumption)
 ·have e1:(R.N++[x]).length=R.N.length+1:=by simp
  have e2:ap6 (R.N++[x])=ap6 R.N++x.vals:=by simp [ap6]
  show World.ownsRow _ 0 _ 2 _ (R.N++[x]).length (ap6 (R.N++[x]));rw [e1,e2];exact hfs.owns hown (fun k hk e=>h.kn (hfresh kb hkk (by rw [<- e];exact hg8 k hk)))
 ·intro e;exact h.kn (hfresh kb hkk (hg8 kb e))
 ·intro k hk e;exact h.ln k hk (hfresh k (h.l.lt k hk).2 (hg8 k e))
 ·intro k hk e;exact h.nt k (hfresh k (h.t.lt k e).2 (hg8 k hk)) e
theorem b76 {w W7 W8:World}{kb:Nat}{R7:dq}{V V7:ax}{o box:Obj}{x:ej}{g8 cap8:Nat}(hV:∀k,V.fp kb k->k<w.heap.size)(hkb:kb<w.heap.size)(h7:aj W7 kb R7 V7)(hfw7:Fr w W7 (V.fp kb))(hsz7:w.heap.size+4<=W7.heap.size)
 (hp7:∀r,V7.fp kb r->V.fp kb r\/w.heap.size+4<=r) (hb7:W7.heap[w.heap.size]?=some box) (hg8:(W7.alloc o).grownBy W8 V7.tv.ownBlock)
 (hown8:W8.ownsRow 0 112 6 (.slice (some ⟨g8,0,none⟩) (R7.T.length+1) cap8) (R7.T.length+1) (xz R7.T++x.vals)) (hat8:V7.tv.ownBlock=some g8\/g8=W7.heap.size+1) :
 W8.cell? ⟨kb,1026,none⟩=some V7.tv/\W8.frozen? ⟨kb,1026,none⟩=false/\
 aj (W8.setCell ⟨kb,1026,none⟩ (.slice (some ⟨g8,0,none⟩) (R7.T.length+1) cap8)) kb {R7 with T:=R7.T++[x]} {V7 with tv:=.slice (some ⟨g8,0,none⟩) (R7.T.length+1) cap8}/\
 Fr w (W8.setCell ⟨kb,1026,none⟩ (.slice (some ⟨g8,0,none⟩) (R7.T.length+1) cap8)) (V.fp kb)/\w.heap.size+4<=(W8.setCell ⟨kb,1026,none⟩ (.slice (some ⟨g8,0,none⟩) (R7.T.length+1) cap8)).heap.size/\
 (∀r,({V7 with tv:=.slice (some ⟨g8,0,none⟩) (R7.T.length+1) cap8}:ax).fp kb r->V.fp kb r\/w.heap.size+4<=r)/\
 (W8.setCell ⟨kb,1026,none⟩ (.slice (some ⟨g8,0,none⟩) (R7.T.length+1) cap8)).heap[w.heap.size]?=some box:=by
 have hf78:Fr W7 W8 (fun r=>V7.tv.ownBlock=some r):=((Fr.refl W7 (fun r=>V7.tv.ownBlock=some r)).alloc _).grown hg8 (fun r hr=>.inl hr);have hgb:¬V7.tv.ownBlock=some w.heap.size:=fun e=>by
  rcases hp7 _ (.inr (.inr (.inr e))) with h8 | h8
  ·have:=hV _ h8;omega
  ·omega
 have hk7:kb<W7.heap.size:=by omega
 refine ⟨hf78.cell h7.ct h7.kt,(World.frozen?_of_block (hf78.block kb hk7 h7.kt)).trans (h7.fz _),h7.pushT (x:=x) hg8 rfl hown8 hat8,?_,?_,?_,?_⟩
 ·exact ((hfw7.alloc _).grown hg8 (fun r hr=>by
   rcases hp7 r (.inr (.inr (.inr hr))) with h9 | h9
   ·exact .inl h9
   ·exact .inr (by omega))).setCell (.inl (.inl rfl)) _ _
 ·rw [bu];exact Nat.le_trans hsz7 hf78.size
 ·rintro r (h9 | h9 | h9 | h9)
  ·exact hp7 r (.inl h9)
  ·exact hp7 r (.inr (.inl h9))
  ·exact hp7 r (.inr (.inr (.inl h9)))
  ·cases h9
   rcases hat8 with h10 | h10
   ·exact hp7 _ (.inr (.inr (.inr h10)))
   ·exact .inr (by show _<=g8;omega)
 ·rw [ft _ _ _ _ _ (by omega)];exact hf78.same hb7 hgb
theorem b79 {w W7 W8:World}{kb:Nat}{R7:dq}{V V7:ax}{o box:Obj}{x:pp}{g8 cap8:Nat}(hV:∀k,V.fp kb k->k<w.heap.size)(hkb:kb<w.heap.size)(h7:aj W7 kb R7 V7)(hfw7:Fr w W7 (V.fp kb))(hsz7:w.heap.size+4<=W7.heap.size)
 (hp7:∀r,V7.fp kb r->V.fp kb r\/w.heap.size+4<=r) (hb7:W7.heap[w.heap.size]?=some box) (hg8:(W7.alloc o).grownBy W8 V7.nv.ownBlock)
 (hown8:W8.ownsRow 0 110 2 (.slice (some ⟨g8,0,none⟩) (R7.N.length+1) cap8) (R7.N.length+1) (ap6 R7.N++x.vals)) (hat8:V7.nv.ownBlock=some g8\/g8=W7.heap.size+1) :
 W8.cell? ⟨kb,1025,none⟩=some V7.nv/\W8.frozen? ⟨kb,1025,none⟩=false/\
 aj (W8.setCell ⟨kb,1025,none⟩ (.slice (some ⟨g8,0,none⟩) (R7.N.length+1) cap8)) kb {R7 with N:=R7.N++[x]} {V7 with nv:=.slice (some ⟨g8,0,none⟩) (R7.N.length+1) cap8}/\
 Fr w (W8.setCell ⟨kb,1025,none⟩ (.slice (some ⟨g8,0,none⟩) (R7.N.length+1) cap8)) (V.fp kb)/\w.heap.size+4<=(W8.setCell ⟨kb,1025,none⟩ (.slice (some ⟨g8,0,none⟩) (R7.N.length+1) cap8)).heap.size/\
 (∀r,({V7 with nv:=.slice (some ⟨g8,0,none⟩) (R7.N.length+1) cap8}:ax).fp kb r->V.fp kb r\/w.heap.size+4<=r)/\
 (W8.setCell ⟨kb,1025,none⟩ (.slice (some ⟨g8,0,none⟩) (R7.N.length+1) cap8)).heap[w.heap.size]?=some box/\W8.heap[w.heap.size]?=some box:=by
 have hf78:Fr W7 W8 (fun r=>V7.nv.ownBlock=some r):=((Fr.refl W7 (fun r=>V7.nv.ownBlock=some r)).alloc _).grown hg8 (fun r hr=>.inl hr);have hgb:¬V7.nv.ownBlock=some w.heap.size:=fun e=>by
  rcases hp7 _ (.inr (.inr (.inl e))) with h8 | h8
  ·have:=hV _ h8;omega
  ·omega
 have hk7:kb<W7.heap.size:=by omega
 refine ⟨hf78.cell h7.cn h7.kn,(World.frozen?_of_block (hf78.block kb hk7 h7.kn)).trans (h7.fz _),h7.pushN (x:=x) hg8 rfl hown8 hat8,?_,?_,?_,?_,hf78.same hb7 hgb⟩
 ·exact ((hfw7.alloc _).grown hg8 (fun r hr=>by
   rcases hp7 r (.inr (.inr (.inl hr))) with h9 | h9
   ·exact .inl h9
   ·exact .inr (by omega))).setCell (.inl (.inl rfl)) _ _
 ·rw [bu];exact Nat.le_trans hsz7 hf78.size
 ·rintro r (h9 | h9 | h9 | h9)
  ·exact hp7 r (.inl h9)
  ·exact hp7 r (.inr (.inl h9))
  ·cases h9
   rcases hat8 with h10 | h10
   ·exact hp7 _ (.inr (.inr (.inl h10)))
   ·exact .inr (by show _<=g8;omega)
  ·exact hp7 r (.inr (.inr (.inr h9)))
 ·rw [ft _ _ _ _ _ (by omega)];exact hf78.same hb7 hgb
theorem b77 {w wr W7:World}{kb:Nat}{V:ax}{lv nv tv lv7:Value}{box:Obj}(hV:∀k,V.fp kb k->k<w.heap.size)(hbi:wr.heap[w.heap.size]?=some box)(hfi:Fr w wr (V.fp kb))(hszi:w.heap.size+4<=wr.heap.size)
 (hpi:∀r,({V with lv:=lv,nv:=nv,tv:=tv}:ax).fp kb r->V.fp kb r\/w.heap.size+4<=r) (hf7:Fr wr W7 (({V with lv:=lv,nv:=nv,tv:=tv}:ax).fp kb)) (hlt7:∀k,lv7.ownBlock=some k->wr.heap.size<=k) :
 W7.heap[w.heap.size]?=some box/\Fr w W7 (V.fp kb)/\w.heap.size+4<=W7.heap.size/\(∀r,({V with lv:=lv7,nv:=nv,tv:=tv}:ax).fp kb r->V.fp kb r\/w.heap.size+4<=r):=by
 refine ⟨hf7.same hbi (fun hr=>?_),hfi.step hf7 (fun r hr=>?_),Nat.le_trans hszi hf7.size,?_⟩
 ·rcases hpi _ hr with h8 | h8
  ·have:=hV _ h8;omega
  ·omega
 ·rcases hpi r hr with h8 | h8
  ·exact .inl h8
  ·exact .inr (by omega)
 ·rintro r (h8 | h8 | h8 | h8)
  ·exact .inl (.inl h8)
  ·exact .inr (Nat.le_trans hszi (hlt7 r h8))
  ·exact hpi r (.inr (.inr (.inl h8)))
  ·exact hpi r (.inr (.inr (.inr h8)))
end Go.Proofs.YtdpjgflemddekaaGreatDoor
namespace Go.Proofs.YtdpjgflemddekaaGreatDoor
def doR (R:dq)(b:Int)(c:Cl):Int×dq:=
 match R.T.find? (af b) with
 | none=>(1,R)
 | some t=>
  if t.state≠1 then (1,R)
  else if c.kind<1\/11<c.kind then (7,R)
  else match bk R.L R.N (if c.kind=1 then fx R.N t.root else t.root) c.at_ with
   | none=>(2,R)
   | some (n,ix)=>match R.L.findIdx? (ee n ix) with
    | none=>if c.kind=1 then (3,R) else (4,R)
    | some p=>match R.L[p]? with
     | none=>(0,R)
     | some e=>if c.kind=1 then retype R (fx R.N t.root) c p e else ((bw R t.root c p e).1,{R with L:=(bw R t.root c p e).2})
end Go.Proofs.YtdpjgflemddekaaGreatDoor
namespace Go.Proofs.YtdpjgflemddekaaGreatDoor
open Go.RowKit
theorem aj.pushL {w w8:World}{kb:Nat}{R:dq}{V:ax}{o:Obj}(h:aj w kb R V)(hg:(w.alloc o).grownBy w8 V.lv.ownBlock){g8 cap8 n8:Nat}{x:aw}
 (hn8:n8=R.L.length+1) (hown:w8.ownsRow 0 108 9 (.slice (some ⟨g8,0,none⟩) n8 cap8) n8 (gn R.L++x.vals)) (hat:V.lv.ownBlock=some g8\/g8=w.heap.size+1) :
 aj (w8.setCell ⟨kb,0,none⟩ (.slice (some ⟨g8,0,none⟩) n8 cap8)) kb {R with L:=R.L++[x]} {V with lv:=.slice (some ⟨g8,0,none⟩) n8 cap8}:=by
 subst hn8;have hf:Fr w w8 (fun r=>V.lv.ownBlock=some r):=((Fr.refl w (fun r=>V.lv.ownBlock=some r)).alloc o).grown hg (fun k hk=>.inl hk);obtain ⟨c,hc,hcc⟩:=h.blk;have hc8:=hf.same hc h.kl;have hn8:=hf.owns h.n (fun k hk e=>h.ln k e hk);have ht8:=hf.owns h.t (fun k hk e=>h.lt k e hk);have hfresh:∀k,k<w.heap.size->k=g8->V.lv.ownBlock=some k:=by
  intro k hk e;rcases hat with h1 | h1
  ·rw [e];exact h1
  ·omega
 have hg8:∀k,(Value.slice (some ⟨g8,0,none⟩) (R.L.length+1) cap8).ownBlock=some k->k=g8:=by intro k hk;cases hk;rfl
 have hkk:kb<w.heap.size:=(Array.getElem?_eq_some_iff.1 hc).1;have hfs:Fr w8 (w8.setCell ⟨kb,0,none⟩ (.slice (some ⟨g8,0,none⟩) (R.L.length+1) cap8)) (fun k=>k=kb):=Fr.setCell (S:=fun k=>k=kb) (Fr.refl _ _) (.inl rfl) _ _;refine ⟨⟨_,ak w8 kb 0 _ hc8,?_⟩,?_,hfs.owns hn8 (fun k hk e=>h.kn (e▸hk)),hfs.owns ht8 (fun k hk e=>h.kt (e▸hk)),?_,h.kn,h.kt,?_,?_,h.nt⟩
 ·obtain ⟨c0,c1,c2,c3,c4,c5,c6,c7,c8⟩:=hcc;refine ⟨by simpa using c0,by simp [c0],?_,?_,?_,?_,?_,?_,?_⟩
  ·intro i hi;rw [Array.getElem?_setIfInBounds_ne (by omega)];exact c2 i hi
  all_goals (rw [Array.getElem?_setIfInBounds_ne (by omega)];assumption)
 ·have e1:(R.L++[x]).length=R.L.length+1:=by simp
  have e2:gn (R.L++[x])=gn R.L++x.vals:=by simp [gn]
  show World.ownsRow _ 0 _ 9 _ (R.L++[x]).length (gn (R.L++[x]));rw [e1,e2];exact hfs.owns hown (fun k hk e=>h.kl (hfresh kb hkk (by rw [<- e];exact hg8 k hk)))
 ·intro e;exact h.kl (hfresh kb hkk (hg8 kb e))
 ·intro k hk e;exact h.ln k (hfresh k (h.n.lt k e).2 (hg8 k hk)) e
 ·intro k hk e;exact h.lt k (hfresh k (h.t.lt k e).2 (hg8 k hk)) e
end Go.Proofs.YtdpjgflemddekaaGreatDoor

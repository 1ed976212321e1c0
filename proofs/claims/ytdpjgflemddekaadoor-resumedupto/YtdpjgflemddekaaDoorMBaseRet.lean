/- Retype of the document's answer as a plain function. -/
import Derived.Test.YtdpjgflemddekaaDoorMBase
import Derived.Deep.AppendLies
namespace Go.Proofs.YtdpjgflemddekaaDoor
open Go.RowKit
def leastI:Nat->Int
 | 1=>4
 | 2=>3
 | 3=>2
 | 4=>4
 | 5=>2
 | _=>0
def mostI:Nat->Int
 | 1=>10
 | 2=>6
 | 3=>2
 | 4=>4
 | 5=>6
 | _=>0
def okObj (c:Cl):Bool:=decide (1<=c.ty/\c.ty<=5/\leastI c.ty.toNat<=c.bits/\c.bits<=mostI c.ty.toNat/\1<=c.count/\c.count<=8)
def upTo (s z:Int):Int:=if s % z=0 then s else s-s % z+z
def retR (R1:Ref)(root:Int)(p:Nat)(up n ix:Int)(c:Cl)(s:Int):Nat->Ref
 | 0=>R1
 | i+1=>
  {L:=layL (retR R1 root p up n ix c s i).L p up ⟨n,ix+i,c.ty,s+i*pw c.bits.toNat,c.bits,7,0,0,0⟩
   N:=if c.ty=2 then (retR R1 root p up n ix c s i).N++[⟨s+i*pw c.bits.toNat,c.bits⟩] else (retR R1 root p up n ix c s i).N
   T:=if c.ty=4 then (retR R1 root p up n ix c s i).T++[⟨s+i*pw c.bits.toNat,1,root,0,0,0⟩] else (retR R1 root p up n ix c s i).T}
def fullIn (L:List Ent)(n ix:Int)(k:Nat):Bool:=(List.range k).any fun i=>(L.find? (isAt n (ix+i))).isSome
def startI (c:Cl)(e:Ent):Int:=upTo (e.base+e.mark) (pw c.bits.toNat)
def retype (R:Ref)(root:Int)(c:Cl)(p:Nat)(e:Ent):Int×Ref:=
 if e.ty≠1 then (3,R)
 else if okObj c=false then (7,R)
 else match findI R.L R.N root c.to with
  | none=>(2,R)
  | some (n,ix)=>
   if slotsOf R.N n<ix+c.count then (2,R)
   else if fullIn R.L n ix c.count.toNat then (4,R)
   else if e.base+pw e.bits.toNat<startI c e+c.count*pw c.bits.toNat then (6,R)
   else (0,retR {R with L:=R.L.set p {e with mark:=startI c e+c.count*pw c.bits.toNat-e.base}} root p e.up n ix c (startI c e) c.count.toNat)
theorem goF_ok {L:List Ent}{N:List Liv}:∀{l:List Int} {nd n ix:Int},goF L N nd l=some (n,ix)->okIx N n ix=true
 | [],_,_,_,h=>by simp [goF] at h
 | [x],nd,n,ix,h=>by
  by_cases hx:okIx N nd x=true
  ·rw [goF_last hx] at h;cases h;exact hx
  ·rw [goF_bad (by simpa using hx)] at h;cases h
 | x :: y :: r,nd,n,ix,h=>by
  by_cases hx:okIx N nd x=true
  ·rw [goF_on hx] at h;cases hn:nodeIn L nd x with
   | none=>rw [hn] at h;cases h
   | some nd'=>rw [hn] at h;exact goF_ok (l:=y :: r) h
  ·rw [goF_bad (by simpa using hx)] at h;cases h
theorem findI_ok {L:List Ent}{N:List Liv}{l:List Int}{root n ix:Int}(h:findI L N root l=some (n,ix)):0<=ix/\ix<slotsOf N n:=by
 unfold findI at h;split at h
 ·cases h
 ·have:=goF_ok h;simpa [okIx] using this
theorem fullIn_hit {L:List Ent}{n ix:Int}{k m:Nat}(hk:k<m)(h:(L.find? (isAt n (ix+k))).isSome=true):fullIn L n ix m=true:=by
 unfold fullIn;rw [List.any_eq_true];exact ⟨k,List.mem_range.2 hk,h⟩
theorem endI_gt (L:List Ent)(i:Nat)(up:Int):i<endI L i up:=by unfold endI;omega
theorem endI_le (L:List Ent)(i:Nat)(up:Int)(hi:i<L.length):endI L i up<=L.length:=by
 unfold endI;have:=(List.takeWhile_sublist (below up) (l:=L.drop (i+1))).length_le;simp at this;omega
theorem layL_get (L:List Ent)(i:Nat)(up:Int)(e:Ent)(hi:i<L.length):(layL L i up e)[i]?=some L[i]:=by
 have h1:=endI_gt L i up;have h2:=endI_le L i up hi;unfold layL;rw [List.getElem?_append_left (by simp;omega),List.getElem?_take];simp [h1,hi]
theorem upTo_ge (s z:Int)(hz:0<z):s<=upTo s z:=by
 unfold upTo;have:=Int.emod_lt_of_pos s hz;split<;>omega
theorem upTo_lt (s z:Int)(hz:0<z):upTo s z<s+z:=by
 unfold upTo;have:=Int.emod_nonneg s (Int.ne_of_gt hz);split<;>omega
theorem RefAt.setMark {w:World}{kb:Nat}{R:Ref}{V:RefV}(h:RefAt w kb R V){g cap p:Nat}(hp:p<R.L.length)(hlv:V.lv=.slice (some ⟨g,0,none⟩) R.L.length cap)(m:Int):
 RefAt (w.setCell ⟨g,p*9+7,none⟩ (.int .i64 m)) kb {R with L:=R.L.set p {R.L[p] with mark:=m}} V:=by
 have hl:=h.l;rw [hlv] at hl;have h2:=owns_set hl (p*9+7) (.int .i64 m);have hf:Fr w (w.setCell ⟨g,p*9+7,none⟩ (.int .i64 m)) (fun k=>k=g):=
  Fr.setCell (S:=fun k=>k=g) (Fr.refl _ _) (.inl rfl) _ _
 have hgl:V.lv.ownBlock=some g:=by rw [hlv];rfl
 obtain ⟨cc,hc,hcc⟩:=h.blk;refine ⟨⟨cc,hf.same hc (fun e=>h.kl (by rw [hgl,e])),hcc⟩,?_,hf.owns h.n (fun k hk e=>h.ln g hgl (by rw [<- e];exact hk)),hf.owns h.t (fun k hk e=>h.lt g hgl (by rw [<- e];exact hk)),h.kl,h.kn,h.kt,h.ln,h.lt,h.nt⟩
 show World.ownsRow _ 0 3 9 V.lv (R.L.set p {R.L[p] with mark:=m}).length (rowE (R.L.set p {R.L[p] with mark:=m}));rw [hlv,List.length_set];have e1:(rowE R.L).set (p*9+7) (.int .i64 m)=rowE (R.L.set p {R.L[p] with mark:=m}):=
  flat_set Ent.vals 9 Ent.vals_len (.int .i64 m) {R.L[p] with mark:=m} R.L p 7 hp (by omega) rfl
 rw [e1] at h2;exact h2
theorem RefAt.setT {w w':World}{kb:Nat}{R:Ref}{V:RefV}(h:RefAt w kb R V){tv':Value}{T':List Thr}(hw:w'=w.setCell ⟨kb,1026,none⟩ tv')
 (ho:w.ownsRow 0 3 6 tv' T'.length (rowT T')) (hn:∀k,tv'.ownBlock=some k->V.lv.ownBlock≠some k/\V.nv.ownBlock≠some k/\k≠kb) :
 RefAt w' kb {R with T:=T'} {V with tv:=tv'}:=by
 subst hw;have hf:Fr w (w.setCell ⟨kb,1026,none⟩ tv') (fun k=>k=kb):=Fr.setCell (S:=fun k=>k=kb) (Fr.refl _ _) (.inl rfl) _ _;obtain ⟨c,hc,hcc⟩:=h.blk;refine ⟨⟨_,setCell_at w kb 1026 tv' hc,?_⟩,hf.owns h.l (fun k hk e=>h.kl (e▸hk)),hf.owns h.n (fun k hk e=>h.kn (e▸hk)),hf.owns ho (fun k hk e=>(hn k hk).2.2 e),
  h.kl,h.kn,fun e=>(hn kb e).2.2 rfl,h.ln,fun k hk hk2=>(hn k hk2).1 hk,fun k hk hk2=>(hn k hk2).2.1 hk⟩
 obtain ⟨c0,c1,c2,c3,c4,c5,c6,c7,c8⟩:=hcc;refine ⟨by simpa using c0,?_,?_,?_,by simp [c0],?_,?_,?_,?_⟩
 ·rw [Array.getElem?_setIfInBounds_ne (by omega)];exact c1
 ·intro i hi;rw [Array.getElem?_setIfInBounds_ne (by omega)];exact c2 i hi
 all_goals (rw [Array.getElem?_setIfInBounds_ne (by omega)];assumption)
end Go.Proofs.YtdpjgflemddekaaDoor
namespace Go.Proofs.YtdpjgflemddekaaDoor
end Go.Proofs.YtdpjgflemddekaaDoor

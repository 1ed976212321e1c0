/- Retype of the document's answer as a plain function. -/
import Derived.Test.YtdpjgflemddekaaDoorMBase
import Derived.Deep.AppendLies
namespace Go.Proofs.YtdpjgflemddekaaDoor
open Go.RowKit
def b40:Nat->Int
 | 1=>4
 | 2=>3
 | 3=>2
 | 4=>4
 | 5=>2
 | _=>0
def b5_:Nat->Int
 | 1=>10
 | 2=>6
 | 3=>2
 | 4=>4
 | 5=>6
 | _=>0
def ad_ (c:Cl):Bool:=decide (1<=c.ty/\c.ty<=5/\b40 c.ty.toNat<=c.bits/\c.bits<=b5_ c.ty.toNat/\1<=c.count/\c.count<=8)
def ki (s z:Int):Int:=if s % z=0 then s else s-s % z+z
def xc (R1:jh)(root:Int)(p:Nat)(up n ix:Int)(c:Cl)(s:Int):Nat->jh
 | 0=>R1
 | i+1=>
  {L:=uf (xc R1 root p up n ix c s i).L p up ⟨n,ix+i,c.ty,s+i*pw c.bits.toNat,c.bits,7,0,0,0⟩
   N:=if c.ty=2 then (xc R1 root p up n ix c s i).N++[⟨s+i*pw c.bits.toNat,c.bits⟩] else (xc R1 root p up n ix c s i).N
   T:=if c.ty=4 then (xc R1 root p up n ix c s i).T++[⟨s+i*pw c.bits.toNat,1,root,0,0,0⟩] else (xc R1 root p up n ix c s i).T}
def k_ (L:List bo)(n ix:Int)(k:Nat):Bool:=(List.range k).any fun i=>(L.find? (fh n (ix+i))).isSome
def xa (c:Cl)(e:bo):Int:=ki (e.base+e.mark) (pw c.bits.toNat)
def retype (R:jh)(root:Int)(c:Cl)(p:Nat)(e:bo):Int×jh:=
 if e.ty≠1 then (3,R)
 else if ad_ c=false then (7,R)
 else match cp R.L R.N root c.to with
  | none=>(2,R)
  | some (n,ix)=>
   if dw R.N n<ix+c.count then (2,R)
   else if k_ R.L n ix c.count.toNat then (4,R)
   else if e.base+pw e.bits.toNat<xa c e+c.count*pw c.bits.toNat then (6,R)
   else (0,xc {R with L:=R.L.set p {e with mark:=xa c e+c.count*pw c.bits.toNat-e.base}} root p e.up n ix c (xa c e) c.count.toNat)
theorem bq6 {L:List bo}{N:List ya}:∀{l:List Int} {nd n ix:Int},goF L N nd l=some (n,ix)->ac6 N n ix=true
 | [],_,_,_,h=>by simp [goF] at h
 | [x],nd,n,ix,h=>by
  by_cases hx:ac6 N nd x=true
  ·rw [bv0 hx] at h;cases h;exact hx
  ·rw [bg5 (by simpa using hx)] at h;cases h
 | x :: y :: r,nd,n,ix,h=>by
  by_cases hx:ac6 N nd x=true
  ·rw [b32 hx] at h;cases hn:rh L nd x with
   | none=>rw [hn] at h;cases h
   | some nd'=>rw [hn] at h;exact bq6 (l:=y :: r) h
  ·rw [bg5 (by simpa using hx)] at h;cases h
theorem bu0 {L:List bo}{N:List ya}{l:List Int}{root n ix:Int}(h:cp L N root l=some (n,ix)):0<=ix/\ix<dw N n:=by
 unfold cp at h;split at h
 ·cases h
 ·have:=bq6 h;simpa [ac6] using this
theorem bd5 {L:List bo}{n ix:Int}{k m:Nat}(hk:k<m)(h:(L.find? (fh n (ix+k))).isSome=true):k_ L n ix m=true:=by
 unfold k_;rw [List.any_eq_true];exact ⟨k,List.mem_range.2 hk,h⟩
theorem bg1 (L:List bo)(i:Nat)(up:Int):i<og L i up:=by unfold og;omega
theorem bf7 (L:List bo)(i:Nat)(up:Int)(hi:i<L.length):og L i up<=L.length:=by
 unfold og;have:=(List.takeWhile_sublist (below up) (l:=L.drop (i+1))).length_le;simp at this;omega
theorem bo7 (L:List bo)(i:Nat)(up:Int)(e:bo)(hi:i<L.length):(uf L i up e)[i]?=some L[i]:=by
 have h1:=bg1 L i up;have h2:=bf7 L i up hi;unfold uf;rw [List.getElem?_append_left (by simp;omega),List.getElem?_take];simp [h1,hi]
theorem ag6 (s z:Int)(hz:0<z):s<=ki s z:=by
 unfold ki;have:=Int.emod_lt_of_pos s hz;split<;>omega
theorem b03 (s z:Int)(hz:0<z):ki s z<s+z:=by
 unfold ki;have:=Int.emod_nonneg s (Int.ne_of_gt hz);split<;>omega
theorem lx.setMark {w:World}{kb:Nat}{R:jh}{V:ad5}(h:lx w kb R V){g cap p:Nat}(hp:p<R.L.length)(hlv:V.lv=.slice (some ⟨g,0,none⟩) R.L.length cap)(m:Int):
 lx (w.setCell ⟨g,p*9+7,none⟩ (.int .i64 m)) kb {R with L:=R.L.set p {R.L[p] with mark:=m}} V:=by
 have hl:=h.l;rw [hlv] at hl;have h2:=yv hl (p*9+7) (.int .i64 m);have hf:Fr w (w.setCell ⟨g,p*9+7,none⟩ (.int .i64 m)) (fun k=>k=g):=
  Fr.setCell (S:=fun k=>k=g) (Fr.refl _ _) (.inl rfl) _ _
 have hgl:V.lv.ownBlock=some g:=by rw [hlv];rfl
 obtain ⟨cc,hc,hcc⟩:=h.blk;refine ⟨⟨cc,hf.same hc (fun e=>h.kl (by rw [hgl,e])),hcc⟩,?_,hf.owns h.n (fun k hk e=>h.ln g hgl (by rw [<- e];exact hk)),hf.owns h.t (fun k hk e=>h.lt g hgl (by rw [<- e];exact hk)),h.kl,h.kn,h.kt,h.ln,h.lt,h.nt⟩
 show World.ownsRow _ 0 3 9 V.lv (R.L.set p {R.L[p] with mark:=m}).length (by_ (R.L.set p {R.L[p] with mark:=m}));rw [hlv,List.length_set];have e1:(by_ R.L).set (p*9+7) (.int .i64 m)=by_ (R.L.set p {R.L[p] with mark:=m}):=
  vt bo.vals 9 bo.vals_len (.int .i64 m) {R.L[p] with mark:=m} R.L p 7 hp (by omega) rfl
 rw [e1] at h2;exact h2
theorem lx.setT {w w':World}{kb:Nat}{R:jh}{V:ad5}(h:lx w kb R V){tv':Value}{T':List gh}(hw:w'=w.setCell ⟨kb,1026,none⟩ tv')
 (ho:w.ownsRow 0 3 6 tv' T'.length (b55 T')) (hn:∀k,tv'.ownBlock=some k->V.lv.ownBlock≠some k/\V.nv.ownBlock≠some k/\k≠kb) :
 lx w' kb {R with T:=T'} {V with tv:=tv'}:=by
 subst hw;have hf:Fr w (w.setCell ⟨kb,1026,none⟩ tv') (fun k=>k=kb):=Fr.setCell (S:=fun k=>k=kb) (Fr.refl _ _) (.inl rfl) _ _;obtain ⟨c,hc,hcc⟩:=h.blk;refine ⟨⟨_,au w kb 1026 tv' hc,?_⟩,hf.owns h.l (fun k hk e=>h.kl (e▸hk)),hf.owns h.n (fun k hk e=>h.kn (e▸hk)),hf.owns ho (fun k hk e=>(hn k hk).2.2 e),
  h.kl,h.kn,fun e=>(hn kb e).2.2 rfl,h.ln,fun k hk hk2=>(hn k hk2).1 hk,fun k hk hk2=>(hn k hk2).2.1 hk⟩
 obtain ⟨c0,c1,c2,c3,c4,c5,c6,c7,c8⟩:=hcc;refine ⟨by simpa using c0,?_,?_,?_,by simp [c0],?_,?_,?_,?_⟩
 ·rw [Array.getElem?_setIfInBounds_ne (by omega)];exact c1
 ·intro i hi;rw [Array.getElem?_setIfInBounds_ne (by omega)];exact c2 i hi
 all_goals (rw [Array.getElem?_setIfInBounds_ne (by omega)];assumption)
end Go.Proofs.YtdpjgflemddekaaDoor
namespace Go.Proofs.YtdpjgflemddekaaDoor
end Go.Proofs.YtdpjgflemddekaaDoor

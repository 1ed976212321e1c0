/- The two kernels do the same. Nothing of the program's text. -/
import Derived.Test.YtdpjgflemddekaaDoorMInvB
import Derived.Test.YtdpjgflemddekaaDoorMBaseRet
namespace Go.Proofs.YtdpjgflemddekaaDoor
def orTwo (K:Ker):Option (Int×Ker)->Int×Ker
 | some y=>y
 | none=>(2,K)
theorem okObj_iff (c:Cl):okObj c=true ↔ isObj c.ty c.bits=true/\1<=c.count/\c.count<=8:=by
 simp only [okObj,isObj,decide_eq_true_eq,Bool.and_eq_true];by_cases h:0<=c.ty/\c.ty<6
 ·have hty:c.ty=0\/c.ty=1\/c.ty=2\/c.ty=3\/c.ty=4\/c.ty=5:=by omega
  rcases hty with e | e | e | e | e | e<;>rw [e]<;>simp only [leastT,mostT]<;>constructor
  ·intro h;omega
  ·intro h;omega
  all_goals
   intro h;first
   |(obtain ⟨a1,a2,a3,a4,a5,a6⟩:=h;exact ⟨⟨⟨by omega,by omega⟩,a3,a4⟩,a5,a6⟩)
   |(obtain ⟨⟨⟨a1,a2⟩,a3,a4⟩,a5,a6⟩:=h;exact ⟨by omega,by omega,a3,a4,a5,a6⟩)
 ·constructor
  ·intro h1;omega
  ·intro h1;exact absurd h1.1.1 h
theorem findI_zero {L:List Ent}{N:List Liv}{r:Int}(h:slotsOf N r=0)(l:List Int):findI L N r l=none:=by
 unfold findI;split
 ·rfl
 ·have hok:∀x,okIx N r x=false:=by
   intro x;unfold okIx;rw [h];by_cases hx:0<=x
   ·have:¬x<0:=by omega
    simp [this]
   ·simp [hx]
  match l with
  | []=>rfl
  | [x]=>simp [goF,hok]
  | x :: y :: r'=>simp [goF,hok]
theorem Core.still {R:Ref}{K:Ker}{D:List (Int×Int)}(h:Core R K D)(root:Int)(l:List Int):findI R.L R.N (stillI R.N root) l=findI R.L R.N root l:=by
 unfold stillI;split
 ·rfl
 ·rename_i hn;have h1:R.N.find? (isBaseN root)=none:=by
   rw [List.find?_eq_none];intro x hx hb;exact hn (List.any_eq_true.2 ⟨x,hx,hb⟩)
  have h2:slotsOf R.N root=0:=by unfold slotsOf;rw [h1]
  have h3:slotsOf R.N (-1)=0:=by
   unfold slotsOf;cases hf:R.N.find? (isBaseN (-1)) with
   | none=>rfl
   | some x=>
    have hb:=List.find?_some hf;have:=h.nb x (List.mem_of_find?_eq_some hf);simp [isBaseN] at hb;omega
  rw [findI_zero h2,findI_zero h3]
theorem still_eq {R:Ref}{root:Int}{l:List Int}{p:Int×Int}(hf:findI R.L R.N root l=some p):stillI R.N root=root:=by
 unfold stillI;split
 ·rfl
 ·rename_i hn;have h1:R.N.find? (isBaseN root)=none:=by
   rw [List.find?_eq_none];intro x hx hb;exact hn (List.any_eq_true.2 ⟨x,hx,hb⟩)
  have h2:slotsOf R.N root=0:=by unfold slotsOf;rw [h1]
  rw [findI_zero h2] at hf;cases hf
theorem Core.found_ok {R:Ref}{K:Ker}{D:List (Int×Int)}(h:Core R K D){root n i:Int}{l:List Int}(hf:findI R.L R.N root l=some (n,i)):0<=i/\i<nodesI K n:=by
 have:=findI_ok hf;unfold nodesI;rw [h.rel.nodes];exact this
theorem Rel.idx {R:Ref}{K:Ker}(h:Rel R K)(n i:Int):(R.L.findIdx? (isAt n i)=none/\K.held ⟨n,i⟩=none)\/
 ∃p,∃hp:p<R.L.length,R.L.findIdx? (isAt n i)=some p/\R.L[p].slot=⟨n,i⟩/\∃c,K.held ⟨n,i⟩=some c/\c.told=R.L[p].told:=by
 cases hf:R.L.findIdx? (isAt n i) with
 | none=>
  refine .inl ⟨rfl,(h.none_iff n i).2 ?_⟩;rw [List.findIdx?_eq_none_iff] at hf;rw [List.find?_eq_none];intro x hx;simp [hf x hx]
 | some p=>
  rw [List.findIdx?_eq_some_iff_getElem] at hf;obtain ⟨hp,h1,_⟩:=hf;have h2:=isAt_iff.1 h1;obtain ⟨c,h3,h4⟩:=h.cap _ (List.getElem_mem hp);rw [h2] at h3;exact .inr ⟨p,hp,rfl,h2,c,h3,h4⟩
theorem told_tyD {c:KCap}{e:Ent}(h:c.told=e.told):(e.ty=1 ↔ c.isU=true)/\(e.ty=3 ↔ c.isE=true):=by
 cases c<;>simp only [KCap.told,Ent.told,Prod.mk.injEq] at h<;>obtain ⟨h1,_⟩:=h<;>simp [<- h1,KCap.isU,KCap.isE]
theorem less_told {c:KCap}{e:Ent}(h:c.told=e.told)(hu:c.isU=false)(r n i u:Int):(lessC c r).told=Ent.told {e with node:=n,index:=i,rights:=andI e.rights r,up:=u}:=by
 cases c<;>simp only [KCap.told,Ent.told,Prod.mk.injEq] at h<;>obtain ⟨h1,h2,h3,h4,h5,h6⟩:=h
 ·simp [KCap.isU] at hu
 all_goals simp only [lessC,KCap.told,Ent.told,Prod.mk.injEq];exact ⟨h1,h2,h3,by rw [h4],h5,h6⟩
theorem less_same (c:KCap)(r:Int):(lessC c r).base=c.base/\(lessC c r).bits=c.bits/\(lessC c r).mark=c.mark/\(lessC c r).isU=c.isU:=by
 cases c<;>exact ⟨rfl,rfl,rfl,rfl⟩
theorem andI_seven {a b:Int}(ha:0<=a/\a<=7)(hb:0<=b/\b<=7):0<=andI a b/\andI a b<=7:=by
 obtain ⟨a1,a2⟩:=ha;obtain ⟨b1,b2⟩:=hb;have ea:a=0\/a=1\/a=2\/a=3\/a=4\/a=5\/a=6\/a=7:=by omega
 have eb:b=0\/b=1\/b=2\/b=3\/b=4\/b=5\/b=6\/b=7:=by omega
 rcases ea with rfl | rfl | rfl | rfl | rfl | rfl | rfl | rfl<;>rcases eb with rfl | rfl | rfl | rfl | rfl | rfl | rfl | rfl<;>decide
theorem less_rights {c:KCap}{r:Int}(h:0<=c.rights/\c.rights<=7)(hr:0<=r/\r<=7):0<=(lessC c r).rights/\(lessC c r).rights<=7:=by
 cases c
 ·exact h
 all_goals exact andI_seven h hr
theorem Core.child {R:Ref}{K:Ker}{D:List (Int×Int)}(h:Core R K D){p:Nat}(hp:p<R.L.length)(root:Int)(l:List Int)(c' d:KCap)(x:Ent)(hd:K.held R.L[p].slot=some d)(hso:SameO d c')(hbg:d.badge=0\/c'.badge=d.badge)
 (hcap:0<=c'.base/\0<=c'.bits/\c'.bits<=10/\c'.base+pw c'.bits.toNat<=1024/\0<=c'.mark/\c'.mark<=pw c'.bits.toNat) (hc:c'.told=x.told) (hrt:0<=c'.rights/\c'.rights<=7) :
 (∃X,(match findI R.L R.N root l with
   | none=>((2:Int),R.L)
   | some (n,i)=>if (R.L.find? (isAt n i)).isSome then (4,R.L) else (0,layL R.L p R.L[p].up {x with node:=n,index:=i}))=X/\
   X.1=(orTwo K (layChildK K root l c' R.L[p].slot)).1/\Core {R with L:=X.2} (orTwo K (layChildK K root l c' R.L[p].slot)).2 D):=by
 refine ⟨_,rfl,?_⟩;unfold layChildK;rw [h.rel.find];cases hf:findI R.L R.N root l with
 | none=>exact ⟨rfl,h⟩
 | some q=>
  obtain ⟨n,i⟩:=q;simp only [Option.map_some];have hs:K.held (toSlot (n,i))=K.held ⟨n,i⟩:=rfl;rw [hs,h.rel.isSome];by_cases he:(R.L.find? (isAt n i)).isSome=true
  ·simp only [he,if_true];exact ⟨rfl,h⟩
  ·simp only [he];have hn:K.held ⟨n,i⟩=none:=by
    rw [h.rel.none_iff];cases hx:R.L.find? (isAt n i) with
    | none=>rfl
    | some y=>rw [hx] at he;exact absurd rfl he
   refine ⟨rfl,?_⟩;exact h.copied hp {x with node:=n,index:=i} c' d (by rw [hc];rfl) hn (h.found_ok hf) hcap hd hso hbg hrt
theorem Core.copy {R:Ref}{K:Ker}{D:List (Int×Int)}(h:Core R K D){p:Nat}(hp:p<R.L.length)(root:Int)(c:Cl)(k:KCap)(hk:K.held R.L[p].slot=some k)(ht:k.told=R.L[p].told)(hkind:c.kind=2):
 (copyL R root c p R.L[p]).1=(orTwo K (if k.isU then some (3,K) else if 0<=c.rights/\c.rights<=7 then layChildK K root c.to (lessC k c.rights) R.L[p].slot else some (7,K))).1/\
 Core {R with L:=(copyL R root c p R.L[p]).2} (orTwo K (if k.isU then some (3,K) else if 0<=c.rights/\c.rights<=7 then layChildK K root c.to (lessC k c.rights) R.L[p].slot else some (7,K))).2 D:=by
 obtain ⟨t1,_⟩:=told_tyD ht;by_cases hu:k.isU=true
 ·have hL:copyL R root c p R.L[p]=(3,R.L):=by unfold copyL;rw [if_pos (.inl ⟨hkind,t1.2 hu⟩)]
  rw [hL,if_pos hu];exact ⟨rfl,h⟩
 ·rw [if_neg hu];have hty:¬R.L[p].ty=1:=fun e=>hu (t1.1 e)
  have h1:¬(c.kind=2/\R.L[p].ty=1\/c.kind=3/\R.L[p].ty≠3):=by rintro (⟨_,e⟩ | ⟨e,_⟩);exact hty e;omega
  have h2:¬(c.kind=3/\R.L[p].badge≠0):=by rintro ⟨e,_⟩;omega
  by_cases hr:0<=c.rights/\c.rights<=7
  ·rw [if_pos hr];have h3:¬((c.kind≠4/\(c.rights<0\/7<c.rights))\/(c.kind=3/\(c.badge<1\/65535<c.badge))):=by omega
   have h4:¬c.kind=4:=by omega
   have h5:¬c.kind=3:=by omega
   have hu':k.isU=false:=by simpa using hu
   obtain ⟨s1,s2,s3,s4⟩:=less_same k c.rights;have hcap:=h.cap _ k hk;have hch:=h.child hp root c.to (lessC k c.rights) k {R.L[p] with rights:=andI R.L[p].rights c.rights,badge:=R.L[p].badge,up:=0} hk ⟨hu',by cases k<;>rfl,s1.symm,s2.symm⟩ (.inr (by cases k<;>rfl)) (by rw [s1,s2,s3];exact hcap)
    (by rw [less_told ht hu' c.rights 0 0 0];rfl) (less_rights (h.rt _ _ hk) hr)
   obtain ⟨X,hX,hA,hB⟩:=hch;have hL:copyL R root c p R.L[p]=X:=by
    rw [<- hX];unfold copyL;rw [if_neg h1,if_neg h2,if_neg h3];cases findI R.L R.N root c.to with
    | none=>rfl
    | some q=>
     obtain ⟨n,i⟩:=q;simp only;split
     ·rfl
     ·first | rfl | rw [if_neg h4,if_neg h5]
   rw [hL];exact ⟨hA,hB⟩
  ·rw [if_neg hr];have hL:copyL R root c p R.L[p]=(7,R.L):=by unfold copyL;rw [if_neg h1,if_neg h2,if_pos (.inl ⟨by omega,by omega⟩)]
   rw [hL];exact ⟨rfl,h⟩
def mintAt (K:Ker)(root:Int)(c:Cl)(s:Slot)(k:KCap):Option (Int×Ker):=
 match k with
 | .endpoint b n q g=>if g≠0 then some (5,K) else if (0<=c.rights/\c.rights<=7)/\1<=c.badge/\c.badge<=65535 then layChildK K root c.to (lessC (.endpoint b n q c.badge) c.rights) s else some (7,K)
 | _=>some (3,K)
theorem Core.mint {R:Ref}{K:Ker}{D:List (Int×Int)}(h:Core R K D){p:Nat}(hp:p<R.L.length)(root:Int)(c:Cl)(k:KCap)(hk:K.held R.L[p].slot=some k)(ht:k.told=R.L[p].told)(hkind:c.kind=3):
 (copyL R root c p R.L[p]).1=(orTwo K (mintAt K root c R.L[p].slot k)).1/\
 Core {R with L:=(copyL R root c p R.L[p]).2} (orTwo K (mintAt K root c R.L[p].slot k)).2 D:=by
 obtain ⟨_,t1⟩:=told_tyD ht;by_cases he:k.isE=true
 ·cases k with
  | endpoint b n q g=>
   have hcap:=h.cap _ _ hk;have h0:¬c.kind=2:=by omega
   have h4:¬c.kind=4:=by omega
   have h1:¬(c.kind=2/\R.L[p].ty=1\/c.kind=3/\R.L[p].ty≠3):=by rintro (⟨e,_⟩ | ⟨_,e⟩);exact h0 e;exact e (t1.2 he)
   have ht':=ht;simp only [KCap.told,Ent.told,Prod.mk.injEq] at ht';obtain ⟨a1,a2,a3,a4,a5,a6⟩:=ht';simp only [mintAt];by_cases hg:g=0
   ·rw [if_neg (by simp [hg])];have h2:¬(c.kind=3/\R.L[p].badge≠0):=by rintro ⟨_,e⟩;exact e (by rw [<- a5];exact hg)
    by_cases hr:(0<=c.rights/\c.rights<=7)/\1<=c.badge/\c.badge<=65535
    ·rw [if_pos hr];have h3:¬((c.kind≠4/\(c.rights<0\/7<c.rights))\/(c.kind=3/\(c.badge<1\/65535<c.badge))):=by omega
     have hch:=h.child hp root c.to (lessC (.endpoint b n q c.badge) c.rights) (.endpoint b n q g) {R.L[p] with rights:=andI R.L[p].rights c.rights,badge:=c.badge,up:=0} hk ⟨rfl,rfl,rfl,rfl⟩ (.inl hg) hcap
      (by simp only [lessC,KCap.told,Ent.told,Prod.mk.injEq];exact ⟨a1,a2,a3,by rw [a4],trivial,a6⟩) (less_rights (c:=.endpoint b n q c.badge) (h.rt _ (.endpoint b n q g) hk) hr.1)
     obtain ⟨X,hX,hA,hB⟩:=hch;have hL:copyL R root c p R.L[p]=X:=by
      rw [<- hX];unfold copyL;rw [if_neg h1,if_neg h2,if_neg h3];cases findI R.L R.N root c.to with
      | none=>rfl
      | some q=>
       obtain ⟨n,i⟩:=q;simp only;split
       ·rfl
       ·first | rfl | rw [if_neg h4,if_pos hkind]
     rw [hL];exact ⟨hA,hB⟩
    ·rw [if_neg hr];have hL:copyL R root c p R.L[p]=(7,R.L):=by unfold copyL;rw [if_neg h1,if_neg h2,if_pos (by omega)]
     rw [hL];exact ⟨rfl,h⟩
   ·rw [if_pos hg];have hL:copyL R root c p R.L[p]=(5,R.L):=by unfold copyL;rw [if_neg h1,if_pos ⟨hkind,by rw [<- a5];exact hg⟩]
    rw [hL];exact ⟨rfl,h⟩
  | _=>simp [KCap.isE] at he
 ·have hL:copyL R root c p R.L[p]=(3,R.L):=by unfold copyL;rw [if_pos (.inr ⟨hkind,fun e=>he (t1.1 e)⟩)]
  have hM:mintAt K root c R.L[p].slot k=some (3,K):=by
   cases k<;>first | rfl | (simp [KCap.isE] at he)
  rw [hL,hM];exact ⟨rfl,h⟩
theorem Core.moves {R:Ref}{K:Ker}{D:List (Int×Int)}(h:Core R K D){p:Nat}(hp:p<R.L.length)(root:Int)(c:Cl)(k:KCap)(hk:K.held R.L[p].slot=some k)(hkind:c.kind=4):
 (copyL R root c p R.L[p]).1=(orTwo K (match findK K root c.to with
   | none=>none
   | some t=>if (K.held t).isSome then some (4,K) else some (0,K.move R.L[p].slot t k))).1/\
 Core {R with L:=(copyL R root c p R.L[p]).2} (orTwo K (match findK K root c.to with
  | none=>none
  | some t=>if (K.held t).isSome then some (4,K) else some (0,K.move R.L[p].slot t k))).2 D:=by
 have h1:¬(c.kind=2/\R.L[p].ty=1\/c.kind=3/\R.L[p].ty≠3):=by omega
 have h2:¬(c.kind=3/\R.L[p].badge≠0):=by omega
 have h3:¬((c.kind≠4/\(c.rights<0\/7<c.rights))\/(c.kind=3/\(c.badge<1\/65535<c.badge))):=by omega
 have hL:copyL R root c p R.L[p]=(match findI R.L R.N root c.to with
  | none=>(2,R.L)
  | some (n,i)=>if (R.L.find? (isAt n i)).isSome then (4,R.L) else (0,R.L.set p {R.L[p] with node:=n,index:=i})):=by
  unfold copyL;rw [if_neg h1,if_neg h2,if_neg h3];cases findI R.L R.N root c.to with
  | none=>rfl
  | some q=>
   obtain ⟨n,i⟩:=q;simp only;split
   ·rfl
   ·first | rfl | rw [if_pos hkind]
 rw [hL,h.rel.find];cases hf:findI R.L R.N root c.to with
 | none=>exact ⟨rfl,h⟩
 | some q=>
  obtain ⟨n,i⟩:=q;simp only [Option.map_some];have hs:K.held (toSlot (n,i))=K.held ⟨n,i⟩:=rfl;rw [hs,h.rel.isSome];by_cases he:(R.L.find? (isAt n i)).isSome=true
  ·simp only [he,if_true];exact ⟨rfl,h⟩
  ·simp only [he];have hn:K.held ⟨n,i⟩=none:=by
    rw [h.rel.none_iff];cases hx:R.L.find? (isAt n i) with
    | none=>rfl
    | some y=>rw [hx] at he;exact absurd rfl he
   exact ⟨rfl,h.move hp k hk n i hn (h.found_ok hf)⟩
theorem full_all {R:Ref}{K:Ker}(h:Rel R K)(n ix:Int)(cnt:Nat):((slotsFrom ⟨n,ix⟩ cnt).all fun t=>(K.held t).isNone)=!fullIn R.L n ix cnt:=by
 unfold slotsFrom fullIn;rw [Bool.eq_iff_iff];simp only [List.all_map,List.all_eq_true,Bool.not_eq_true',Function.comp];rw [<- Bool.not_eq_true,List.any_eq_true];constructor
 ·rintro h1 ⟨i,hi,h2⟩;have:=h1 i hi;rw [<- h.isSome] at h2;rw [Option.isNone_iff_eq_none] at this;rw [this] at h2;cases h2
 ·intro h1 i hi;rw [Option.isNone_iff_eq_none];cases hh:K.held ⟨n,ix+i⟩ with
  | none=>rfl
  | some k=>exact absurd ⟨i,hi,by rw [<- h.isSome,hh];rfl⟩ h1
def carveR (R:Ref)(root:Int)(c:Cl)(p:Nat)(e:Ent)(n ix:Int):Int×Ref:=
 if e.base+pw e.bits.toNat<startI c e+c.count*pw c.bits.toNat then (6,R)
 else (0,retR {R with L:=R.L.set p {e with mark:=startI c e+c.count*pw c.bits.toNat-e.base}} root p e.up n ix c (startI c e) c.count.toNat)
theorem four_start {ty bits s:Int}(hob:isObj ty bits=true)(e:ty=4):upTo s (pw bits.toNat) % 16=0:=by
 simp only [isObj,Bool.and_eq_true,decide_eq_true_eq] at hob;subst e;simp only [leastT,mostT] at hob;have:bits=4:=by omega
 subst this;have:pw (4:Int).toNat=16:=by decide
 rw [this];unfold upTo;split<;>omega
theorem Core.carves {R:Ref}{K:Ker}(h:Core R K []){p:Nat}(hp:p<R.L.length)(root:Int)(c:Cl)(m:Int)(hk:K.held R.L[p].slot=some (.untyped R.L[p].base R.L[p].bits m))(hm:R.L[p].mark=m)
 (hob:okObj c=true) {nd ix:Int} {l:List Int} (hf:findI R.L R.N root l=some (nd,ix)) (hroom:¬slotsOf R.N nd<ix+c.count) (hfu:fullIn R.L nd ix c.count.toNat=false) :
 (carveR R root c p R.L[p] nd ix).1=(carveK K R.L[p].slot ⟨nd,ix⟩ c.ty c.bits root R.L[p].base R.L[p].bits m c.count.toNat).1/\
 Core (carveR R root c p R.L[p] nd ix).2 (carveK K R.L[p].slot ⟨nd,ix⟩ c.ty c.bits root R.L[p].base R.L[p].bits m c.count.toNat).2 []/\KMore K (carveK K R.L[p].slot ⟨nd,ix⟩ c.ty c.bits root R.L[p].base R.L[p].bits m c.count.toNat).2:=by
 subst hm;have hob':=(okObj_iff c).1 hob;obtain ⟨o1,o2⟩:=h.found_ok hf;have hcnt:((c.count.toNat:Nat):Int)=c.count:=by omega
 have hslots:slotsOf R.N nd=nodesI K nd:=by unfold nodesI;rw [h.rel.nodes]
 unfold carveR carveK startI;rw [hcnt];by_cases hrm:R.L[p].base+pw R.L[p].bits.toNat<upTo (R.L[p].base+R.L[p].mark) (pw c.bits.toNat)+c.count*pw c.bits.toNat
 ·rw [if_pos hrm,if_pos hrm];exact ⟨rfl,h,KMore.refl K⟩
 ·rw [if_neg hrm,if_neg hrm];refine ⟨rfl,?_⟩;have hcap:=h.cap _ _ hk;simp only [KCap.base,KCap.bits,KCap.mark] at hcap;obtain ⟨c1,c2,c3,c4,c5,c6⟩:=hcap;have hpos:=pw_pos c.bits.toNat;have halg:c.ty=4->upTo (R.L[p].base+R.L[p].mark) (pw c.bits.toNat) % 16=0:=four_start hob'.1;have hge:=upTo_ge (R.L[p].base+R.L[p].mark) (pw c.bits.toNat) (by omega);generalize hst:upTo (R.L[p].base+R.L[p].mark) (pw c.bits.toNat)=st at hrm hge halg ⊢;have hmul:1*pw c.bits.toNat<=c.count*pw c.bits.toNat:=Int.mul_le_mul_of_nonneg_right hob'.2.1 (by omega);have hempty:∀i:Nat,i<c.count.toNat->K.held ⟨nd,ix+i⟩=none:=by
   intro i hi;cases hh:K.held ⟨nd,ix+i⟩ with
   | none=>rfl
   | some x=>
    have:=fullIn_hit (L:=R.L) (n:=nd) (ix:=ix) hi (by rw [<- h.rel.isSome,hh];rfl);rw [hfu] at this;cases this
  have hfne:∀j:Nat,j<c.count.toNat->R.L[p].slot≠⟨nd,ix+j⟩:=by
   intro j hj e;have:=hempty j hj;rw [<- e,hk] at this;cases this
  rw [<- carve_upd K R.L[p].slot nd ix c.ty c.bits root st (.untyped R.L[p].base R.L[p].bits (st+c.count*pw c.bits.toNat-R.L[p].base)) c.count.toNat hfne];have hC1:=h.setMark hp hk (m':=st+c.count*pw c.bits.toNat-R.L[p].base) (.inl (by omega)) (by omega) (by omega);have hF0:=h.free hk (a:=st) (z:=c.count*pw c.bits.toNat) (by omega) (by omega);have hF1:Free {K with held:=upd K.held R.L[p].slot (some (.untyped R.L[p].base R.L[p].bits (st+c.count*pw c.bits.toNat-R.L[p].base)))} R.L[p].slot st (c.count*pw c.bits.toNat):=by
   intro s e hs he;have he':upd K.held R.L[p].slot (some (.untyped R.L[p].base R.L[p].bits (st+c.count*pw c.bits.toNat-R.L[p].base))) s=some e:=he;rw [upd_other _ _ hs] at he';exact hF0 s e hs he'
  have hp1:p<(R.L.set p {R.L[p] with mark:=st+c.count*pw c.bits.toNat-R.L[p].base}).length:=by simpa using hp
  have hg1:(R.L.set p {R.L[p] with mark:=st+c.count*pw c.bits.toNat-R.L[p].base})[p]'hp1={R.L[p] with mark:=st+c.count*pw c.bits.toNat-R.L[p].base}:=by simp
  have hup:((R.L.set p {R.L[p] with mark:=st+c.count*pw c.bits.toNat-R.L[p].base})[p]'hp1).up=R.L[p].up:=by rw [hg1]
  have hsl:((R.L.set p {R.L[p] with mark:=st+c.count*pw c.bits.toNat-R.L[p].base})[p]'hp1).slot=R.L[p].slot:=by rw [hg1];rfl
  have hall:=hC1.carve hp1 c nd ix st root c.count.toNat hob'.1 (fun i hi=>by
   show upd K.held R.L[p].slot _ _=none;rw [upd_other _ _ (Ne.symm (hfne i hi))];exact hempty i hi)
   ⟨o1,by show ix+_<=nodesI K nd;rw [hcnt];omega⟩ (b:=R.L[p].base) (nn:=R.L[p].bits) (m:=st+c.count*pw c.bits.toNat-R.L[p].base) (by rw [hsl];exact upd_same _ _ _) ⟨by omega,by rw [hcnt];omega⟩ (by rw [hcnt,hsl];exact hF1) halg c.count.toNat (Nat.le_refl _)
  simp only [hup,hsl] at hall;obtain ⟨_,_,_,hD,_,_,_,_,hM⟩:=hall;exact ⟨hD,⟨hM.thr,hM.qs,hM.new⟩⟩
theorem goneR_D (R:Ref)(ws:Nat->Int)(q:List Wt)(ty b bits:Int):∃R' ext q',(∀D0,goneR ⟨R,D0,ws,q⟩ ty b bits=⟨R',D0++ext,ws,q'⟩)/\R'.L=R.L/\(ext=[]\/ty=2/\ext=[(b,pw (bits-2).toNat)]):=by
 unfold goneR;by_cases h:ty=2
 ·exact ⟨{R with N:=R.N.filter (fun l=>!isBaseN b l),T:=R.T.map (noRootT b)},[(b,pw (bits-2).toNat)],q,fun D0=>by rw [if_pos h],rfl,.inr ⟨h,rfl⟩⟩
 ·by_cases h3:ty=3
  ·exact ⟨{R with T:=(q.foldl (tellR b) (R.T,q)).1},[],(q.foldl (tellR b) (R.T,q)).2,fun D0=>by rw [if_neg h,if_pos h3,List.append_nil],rfl,.inl rfl⟩
  ·by_cases h4:ty=4
   ·exact ⟨{R with T:=R.T.filter (fun t=>!isBaseT b t)},[],outQ b q,fun D0=>by rw [if_neg h,if_neg h3,if_pos h4,List.append_nil],rfl,.inl rfl⟩
   ·exact ⟨R,[],q,fun D0=>by rw [if_neg h,if_neg h3,if_neg h4,List.append_nil],rfl,.inl rfl⟩
theorem takeR_D (R:Ref)(ws:Nat->Int)(q:List Wt)(p:Nat)(e:Ent):∃R' ext q',(∀D0,takeR ⟨R,D0,ws,q⟩ p e=⟨R',D0++ext,ws,q'⟩)/\R'.L=takeL R.L p e.up/\(ext=[]\/e.ty=2/\ext=[(e.base,pw (e.bits-2).toNat)]):=by
 unfold takeR;by_cases h:(takeL R.L p e.up).any (sameE e.ty e.base)=true
 ·exact ⟨{R with L:=takeL R.L p e.up},[],q,fun D0=>by simp only;rw [if_pos h,List.append_nil],rfl,.inl rfl⟩
 ·obtain ⟨R',ext,q',h1,h2,h3⟩:=goneR_D {R with L:=takeL R.L p e.up} ws q e.ty e.base e.bits;exact ⟨R',ext,q',fun D0=>by simp only;rw [if_neg h];exact h1 D0,h2,h3⟩
theorem takeK_D (K:Ker)(s:Slot):∃K' ext,(∀D0,takeK ⟨K,D0⟩ s=⟨K',D0++ext⟩)/\(K'.held s=none)/\K'.ws=K.ws:=by
 cases hc:K.held s with
 | none=>exact ⟨K,[],fun D0=>by rw [takeK_none hc,List.append_nil],hc,rfl⟩
 | some c=>
  by_cases hh:heldK (outK K s) c.ty c.base
  ·exact ⟨outK K s,[],fun D0=>by rw [takeK_held hc hh,List.append_nil],upd_same _ _ _,rfl⟩
  ·cases c with
   | untyped b n m=>exact ⟨outK K s,[],fun D0=>by rw [takeK_gone hc hh,List.append_nil];rfl,upd_same _ _ _,rfl⟩
   | frame b n m=>exact ⟨outK K s,[],fun D0=>by rw [takeK_gone hc hh,List.append_nil];rfl,upd_same _ _ _,rfl⟩
   | node b n m=>exact ⟨doomK (outK K s) b,[(b,nodesI K b)],fun D0=>by rw [takeK_gone hc hh];rfl,upd_same _ _ _,rfl⟩
   | task b n m=>exact ⟨endK (outK K s) b,[],fun D0=>by rw [takeK_gone hc hh,List.append_nil];rfl,upd_same _ _ _,rfl⟩
   | endpoint b n m g=>exact ⟨abandonK (outK K s) b,[],fun D0=>by rw [takeK_gone hc hh,List.append_nil];rfl,upd_same _ _ _,rfl⟩
theorem Core.lower {R:Ref}{K:Ker}{A E:List (Int×Int)}{nd left:Int}(h:Core R K (A++(nd,left) :: E))(hl:0<left)(he:K.held ⟨nd,left-1⟩=none):Core R K (A++(nd,left-1) :: E):=by
 refine ⟨h.rel,h.geo,?_,?_,?_,h.nod,h.cap,h.hno,h.thd,h.hth,h.que,h.hen,h.nd,h.td,h.nb,h.tb,h.rt,?_⟩
 ·intro s c hs;obtain ⟨g1,g2⟩:=h.inN s c hs;refine ⟨g1,?_⟩;rcases g2 with g2 | ⟨d,hd,g2,g3⟩
  ·exact .inl g2
  ·simp only [List.mem_append,List.mem_cons] at hd;rcases hd with hd | rfl | hd
   ·exact .inr ⟨d,by simp [hd],g2,g3⟩
   ·simp only at g2 g3;refine .inr ⟨(nd,left-1),by simp,g2,?_⟩;show s.index<left-1;by_cases e:s.index=left-1
    ·exfalso
     have:s=⟨nd,left-1⟩:=by cases s;simp only at g2 e;rw [g2,e]
     rw [this,he] at hs;cases hs
    ·omega
   ·exact .inr ⟨d,by simp [hd],g2,g3⟩
 ·intro d hd;simp only [List.mem_append,List.mem_cons] at hd;rcases hd with hd | rfl | hd
  ·exact h.dm d (by simp [hd])
  ·obtain ⟨g1,g2,g3,g4,g5⟩:=h.dm (nd,left) (by simp);exact ⟨g1,g2,by dsimp only at *;omega,by dsimp only at *;omega,g5⟩
  ·exact h.dm d (by simp [hd])
 ·have:=h.dn;simpa using this
 ·intro d hd s c hs hu;simp only [List.mem_append,List.mem_cons] at hd;rcases hd with hd | rfl | hd
  ·exact h.dap d (by simp [hd]) s c hs hu
  ·exact h.dap (nd,left) (by simp) s c hs hu
  ·exact h.dap d (by simp [hd]) s c hs hu
theorem Core.dropD {R:Ref}{K:Ker}{A:List (Int×Int)}{nd:Int}(h:Core R K (A++[(nd,0)])):Core R K A:=by
 refine ⟨h.rel,h.geo,?_,fun d hd=>h.dm d (by simp [hd]),?_,h.nod,h.cap,h.hno,h.thd,h.hth,h.que,h.hen,h.nd,h.td,h.nb,h.tb,h.rt,fun d hd=>h.dap d (by simp [hd])⟩
 ·intro s c hs;obtain ⟨g1,g2⟩:=h.inN s c hs;refine ⟨g1,?_⟩;rcases g2 with g2 | ⟨d,hd,g2,g3⟩
  ·exact .inl g2
  ·simp only [List.mem_append,List.mem_singleton] at hd;rcases hd with hd | rfl
   ·exact .inr ⟨d,hd,g2,g3⟩
   ·simp only at g3;omega
 ·have:=h.dn;rw [List.map_append,List.nodup_append] at this;exact this.1
theorem last_cases (D:List (Int×Int)):D=[]\/∃A nd left,D=A++[(nd,left)]/\D.getLast?=some (nd,left)/\D.dropLast=A:=by
 rcases List.eq_nil_or_concat D with h | ⟨A,d,rfl⟩
 ·exact .inl h
 ·exact .inr ⟨A,d.1,d.2,by simp,by simp,by simp⟩
theorem stepR_zero {R:Ref}{A:List (Int×Int)}{nd:Int}{ws:Nat->Int}{q:List Wt}:stepR ⟨R,A++[(nd,0)],ws,q⟩=⟨R,A,ws,q⟩:=by
 unfold stepR;simp
theorem stepR_more {R:Ref}{A:List (Int×Int)}{nd left:Int}{ws:Nat->Int}{q:List Wt}(h:left≠0):stepR ⟨R,A++[(nd,left)],ws,q⟩=takeAtR ⟨R,A++[(nd,left-1)],ws,q⟩ nd (left-1):=by
 unfold stepR;simp [h]
theorem stepK_zero {K:Ker}{A:List (Int×Int)}{nd:Int}:stepK ⟨K,A++[(nd,0)]⟩=⟨K,A⟩:=by
 unfold stepK;simp
theorem stepK_more {K:Ker}{A:List (Int×Int)}{nd left:Int}(h:left≠0):stepK ⟨K,A++[(nd,left)]⟩=takeK ⟨K,A++[(nd,left-1)]⟩ ⟨nd,left-1⟩:=by
 unfold stepK;simp [h]
theorem Ag.step {S:RS}{S':KS}(h:Ag S S'):Ag (stepR S) (stepK S'):=by
 obtain ⟨hC,hD,hws,hQ⟩:=h;obtain ⟨K,D⟩:=S';obtain ⟨R,D',ws,q⟩:=S;simp only at hC hD hws hQ;subst hD;rcases last_cases D with rfl | ⟨A,nd,left,rfl,_,_⟩
 ·exact ⟨hC,rfl,hws,hQ⟩
 ·obtain ⟨b1,b2,b3,b4,_⟩:=hC.dm (nd,left) (by simp);dsimp only at b1 b2 b3 b4;by_cases hl:left=0
  ·subst hl;rw [stepR_zero,stepK_zero];exact ⟨hC.dropD,rfl,hws,hQ⟩
  ·rw [stepR_more hl,stepK_more hl];unfold takeAtR;simp only;rcases hC.rel.idx nd (left-1) with ⟨e1,e2⟩ | ⟨p,hp,e1,e2,c,e3,e4⟩
   ·rw [e1,takeK_none e2];exact ⟨hC.lower (E:=[]) (by omega) e2,rfl,hws,hQ⟩
   ·rw [e1];simp only [List.getElem?_eq_getElem hp];obtain ⟨R1,ext,q1,r1,r2,_⟩:=takeR_D R ws q p R.L[p];obtain ⟨K1,ext',k1,k2,k3⟩:=takeK_D K ⟨nd,left-1⟩;have hA:=(Ag.mk (S:=⟨R,A++[(nd,left)],ws,q⟩) (S':=⟨K,A++[(nd,left)]⟩) hC rfl hws hQ).take (p:=p) hp;rw [e2] at hA;rw [r1,k1] at hA ⊢;obtain ⟨a1,a2,a3,a4⟩:=hA;simp only at a1 a2 a3 a4;have hext:ext'=ext:=List.append_cancel_left a2;subst hext;rw [List.append_assoc] at a1 ⊢;exact ⟨a1.lower (by omega) k2,rfl,a3,a4⟩
theorem Ag.done {S:RS}{S':KS}(h:Ag S S'):doneR S=doneK S':=by unfold doneR doneK;rw [h.d]
theorem Ag.work:∀(n:Nat) {S:RS} {S':KS} (bs:List Bool),Ag S S'->(workG stepR doneR n S bs).2=(workG stepK doneK n S' bs).2/\Ag (workG stepR doneR n S bs).1 (workG stepK doneK n S' bs).1
 | 0,_,_,_,h=>⟨rfl,h⟩
 | n+1,S,S',bs,h=>by
  unfold workG;rw [h.done];by_cases hd:doneK S'=true
  ·rw [if_pos hd,if_pos hd];exact ⟨rfl,h⟩
  ·rw [if_neg hd,if_neg hd];cases bs with
   | nil=>exact Ag.work n [] h.step
   | cons b r=>
    cases b with
    | true=>exact ⟨rfl,h.step⟩
    | false=>exact Ag.work n r h.step
def muD (D:List (Int×Int)):Nat:=(D.map fun d=>d.2.toNat+1).sum
def mu (S:RS):Nat:=18*S.R.L.length+muD S.D
theorem muD_append (A B:List (Int×Int)):muD (A++B)=muD A+muD B:=by simp [muD]
theorem mu_take {S:RS}{S':KS}(h:Ag S S'){p:Nat}(hp:p<S.R.L.length):mu (takeR S p S.R.L[p])+1<=mu S/\(takeR S p S.R.L[p]).R.L.length+1=S.R.L.length:=by
 obtain ⟨hC,hD,hws,hQ⟩:=h;obtain ⟨R,D,ws,q⟩:=S;simp only at hC hp;obtain ⟨R1,ext,q1,r1,r2,r3⟩:=takeR_D R ws q p R.L[p];simp only [r1,mu,r2,muD_append];have hlen:=takeL_len hp;have hext:muD ext<=17:=by
  rcases r3 with rfl | ⟨hty,rfl⟩
  ·simp [muD]
  ·obtain ⟨c,hc,ht⟩:=hC.rel.cap _ (List.getElem_mem hp);have h2:=told_type ht;obtain ⟨hb,hbi,_⟩:=told_base ht;rw [hty] at h2;have:pw (R.L[p].bits-2).toNat<=16:=by
    cases c with
    | node b n r=>
     obtain ⟨n3,n6,hnb⟩:=hC.hno _ _ _ _ hc;obtain ⟨q1,q2⟩:=pw_quarter n3 n6;simp only [KCap.bits] at hbi;rw [<- hbi];rw [q1] at q2;simpa [pw] using q2
    | _=>simp only [KCap.ty] at h2;omega
   simp only [muD,List.map_cons,List.map_nil,List.sum_cons,List.sum_nil];omega
 exact ⟨by omega,hlen⟩
theorem mu_step {S:RS}{S':KS}(h:Ag S S')(hd:doneR S=false):mu (stepR S)+1<=mu S/\(stepR S).R.L.length<=S.R.L.length:=by
 obtain ⟨R,D,ws,q⟩:=S;have hC:=h.core;simp only at hC;rcases last_cases D with rfl | ⟨A,nd,left,rfl,_,_⟩
 ·simp [doneR] at hd
 ·obtain ⟨b1,b2,b3,b4,_⟩:=hC.dm (nd,left) (by simp);dsimp only at b1 b2 b3 b4;by_cases hl:left=0
  ·subst hl;rw [stepR_zero];simp only [mu,muD_append];simp only [muD,List.map_cons,List.map_nil,List.sum_cons,List.sum_nil];omega
  ·rw [stepR_more hl];unfold takeAtR;simp only;have hlow:muD (A++[(nd,left-1)])+1=muD (A++[(nd,left)]):=by
    rw [muD_append,muD_append];simp only [muD,List.map_cons,List.map_nil,List.sum_cons,List.sum_nil];omega
   rcases hC.rel.idx nd (left-1) with ⟨e1,e2⟩ | ⟨p,hp,e1,e2,c,e3,e4⟩
   ·rw [e1];simp only [mu];omega
   ·rw [e1];simp only [List.getElem?_eq_getElem hp];have h1:=mu_take h (p:=p) hp;simp only at h1;obtain ⟨R1,ext,q1,r1,r2,r3⟩:=takeR_D R ws q p R.L[p];rw [r1] at h1 ⊢;simp only [mu,muD_append (A++_) ext] at h1 ⊢;omega
theorem Ag.ends:∀(n:Nat) {S:RS} {S':KS},Ag S S'->mu S<=n->Ends stepR doneR n S/\Ends stepK doneK n S'
 | 0,S,S',h,hm=>by
  have:doneR S=true:=by
   cases hd:doneR S with
   | true=>rfl
   | false=>have:=mu_step h hd;omega
  exact ⟨this,by rw [Ends,<- h.done];exact this⟩
 | n+1,S,S',h,hm=>by
  cases hd:doneR S with
  | true=>exact ⟨.inl hd,.inl (by rw [<- h.done];exact hd)⟩
  | false=>
   have:=mu_step h hd;obtain ⟨g1,g2⟩:=Ag.ends n h.step (by omega);exact ⟨.inr g1,.inr g2⟩
theorem muD_le:∀{D:List (Int×Int)},(∀d∈D,d.2<=16)->muD D<=17*D.length
 | [],_=>by simp [muD]
 | d :: D,h=>by
  have h1:=h d (by simp);have h2:=muD_le (D:=D) (fun x hx=>h x (by simp [hx]))
  simp only [muD,List.map_cons,List.sum_cons,List.length_cons] at h2 ⊢;omega
theorem Core.lenD {R:Ref}{K:Ker}{D:List (Int×Int)}(h:Core R K D):D.length<=1024:=by
 have:=nodup_map_le (fun b:Int=>b.toNat) 1024 (D.map Prod.fst) h.dn (fun a ha b hb e=>by
  obtain ⟨l,hl,rfl⟩:=List.mem_map.1 ha;obtain ⟨l',hl',rfl⟩:=List.mem_map.1 hb;have:=h.dm l hl;have:=h.dm l' hl';try dsimp only at e
  omega) (fun a ha=>by
  obtain ⟨l,hl,rfl⟩:=List.mem_map.1 ha;have:=h.dm l hl;try dsimp only
  omega)
 simpa using this
def F0:Nat:=400000
theorem F0_eq:F0=400000:=rfl
theorem Ag.mu_le {S:RS}{S':KS}(h:Ag S S'):mu S<=F0:=by
 have h1:=h.core.len;have h2:=h.core.lenD;have h3:=muD_le (D:=S.D) (fun d hd=>(h.core.dm d hd).2.2.2.1)
 rw [F0_eq];unfold mu;omega
attribute [irreducible] F0
theorem work_done {σ:Type}{step:σ->σ}{done:σ->Bool}:∀(n:Nat) (S:σ) (bs:List Bool),Ends step done n S->(workG step done n S bs).2.2=true->done (workG step done n S bs).1=true
 | 0,S,bs,h,_=>h
 | n+1,S,bs,h,h2=>by
  unfold workG at h2 ⊢;by_cases hd:done S=true
  ·rw [if_pos hd];exact hd
  ·rw [if_neg hd] at h2 ⊢;have h':=h.resolve_left hd;cases bs with
   | nil=>exact work_done n _ [] h' h2
   | cons b r=>
    cases b with
    | true=>simp at h2
    | false=>exact work_done n _ r h' h2
theorem work_nil {σ:Type}{step:σ->σ}{done:σ->Bool}:∀(n:Nat) (S:σ),(workG step done n S []).2=([],true)
 | 0,_=>rfl
 | n+1,S=>by
  unfold workG;split
  ·rfl
  ·exact work_nil n _
theorem doneR_iff {S:RS}:doneR S=true ↔ S.D=[]:=by unfold doneR;simp
theorem mu_work:∀(n:Nat) {S:RS} {S':KS} (bs:List Bool),Ag S S'->(workG stepR doneR n S bs).1.R.L.length<=S.R.L.length
 | 0,_,_,_,_=>Nat.le_refl _
 | n+1,S,S',bs,h=>by
  unfold workG;by_cases hd:doneR S=true
  ·rw [if_pos hd];exact Nat.le_refl _
  ·rw [if_neg hd];have h1:=(mu_step h (by simpa using hd)).2;cases bs with
   | nil=>exact Nat.le_trans (mu_work n [] h.step) h1
   | cons b r=>
    cases b with
    | true=>exact h1
    | false=>exact Nat.le_trans (mu_work n r h.step) h1
def pollL:List Bool->Bool×List Bool
 | []=>(false,[])
 | b :: r=>(b,r)
def takeB (S:RS)(p:Nat)(e:Ent)(bs:List Bool):Int×RS×List Bool:=
 if (pollL bs).1 then (8,takeR S p e,(pollL bs).2)
 else (if (workG stepR doneR F0 (takeR S p e) (pollL bs).2).2.2 then 0 else 8,(workG stepR doneR F0 (takeR S p e) (pollL bs).2).1,(workG stepR doneR F0 (takeR S p e) (pollL bs).2).2.1)
noncomputable def takeBK (S:KS)(s:Slot)(bs:List Bool):Int×KS×List Bool:=
 if (pollL bs).1 then (8,takeK S s,(pollL bs).2)
 else (if (workG stepK doneK F0 (takeK S s) (pollL bs).2).2.2 then 0 else 8,(workG stepK doneK F0 (takeK S s) (pollL bs).2).1,(workG stepK doneK F0 (takeK S s) (pollL bs).2).2.1)
theorem Ag.takeB {S:RS}{S':KS}(h:Ag S S'){p:Nat}(hp:p<S.R.L.length)(bs:List Bool):
 (takeB S p S.R.L[p] bs).1=(takeBK S' S.R.L[p].slot bs).1/\(takeB S p S.R.L[p] bs).2.2=(takeBK S' S.R.L[p].slot bs).2.2/\Ag (takeB S p S.R.L[p] bs).2.1 (takeBK S' S.R.L[p].slot bs).2.1/\
 (takeB S p S.R.L[p] bs).2.1.R.L.length<S.R.L.length/\(bs=[]->(takeB S p S.R.L[p] bs).1=0/\(takeB S p S.R.L[p] bs).2.2=[]/\(takeB S p S.R.L[p] bs).2.1.D=[]):=by
 have h1:=h.take hp;have h2:=(mu_take h hp).2;unfold Proofs.YtdpjgflemddekaaDoor.takeB takeBK;by_cases hb:(pollL bs).1=true
 ·rw [if_pos hb,if_pos hb];refine ⟨rfl,rfl,h1,by simp only;omega,?_⟩;rintro rfl;simp [pollL] at hb
 ·rw [if_neg hb,if_neg hb];obtain ⟨g1,g2⟩:=Ag.work F0 (pollL bs).2 h1;have g3:=mu_work F0 (pollL bs).2 h1;refine ⟨by simp only [g1],by simp only [g1],g2,by simp only;omega,?_⟩;rintro rfl;have g4:(workG stepR doneR F0 (takeR S p S.R.L[p]) (pollL []).2).2=([],true):=work_nil _ _;simp only [g4];refine ⟨rfl,trivial,doneR_iff.1 (work_done F0 _ _ (Ag.ends F0 h1 h1.mu_le).1 (by rw [g4]))⟩
def lastTo (L:List Ent)(up:Int)(p:Nat):Nat->Nat
 | 0=>p+1
 | k+1=>match L[p+1+k]? with
  | some e=>if e.up=up+1 then p+1+k else lastTo L up p k
  | none=>lastTo L up p k
def lastKid (L:List Ent)(p:Nat)(up:Int):Nat:=lastTo L up p (endI L p up-(p+1))
def lastC (K:Ker)(s:Slot):Slot:=match K.st s with
 | some x=>x.kids.getLast?.getD ⟨0,0⟩
 | none=>⟨0,0⟩
theorem Fo.flat_roots:∀(F:Fo) (d:Int),(F.flat d).filter (fun x=>decide (x.2=d))=F.roots.map fun s=>(s,d)
 | .nil,_=>rfl
 | .node s kids next,d=>by
  simp only [Fo.flat,Fo.roots,List.map_cons];rw [List.filter_cons_of_pos (by simp),List.filter_append,flat_roots next d];have:(kids.flat (d+1)).filter (fun x=>decide (x.2=d))=[]:=by
   rw [List.filter_eq_nil_iff];intro x hx;have:=Fo.flat_ge kids (d+1) x hx;simp;omega
  rw [this,List.nil_append]
theorem Fo.In.split2 {st:Slot->Option Std}:∀{F:Fo} {d:Int} {p:Slot},F.In st p->∀s∈F.slots,∃A B C u x,F.flat d=A++(s,u) :: (B++C)/\(∀y∈B,u<y.2)/\(∀y∈C.head?,y.2<=u)/\d<=u/\st s=some x/\(B=[] ↔ x.kids=[])/\
 B.filter (fun y=>decide (y.2=u+1))=x.kids.map fun k=>(k,u+1)
 | .nil,_,_,_,s,h=>by simp [Fo.slots] at h
 | .node s0 kids next,d,p,⟨⟨x,h1,h2,h3⟩,h4,h5⟩,s,h=>by
  simp only [Fo.slots,List.mem_cons,List.mem_append] at h;rcases h with rfl | h | h
  ·refine ⟨[],kids.flat (d+1),next.flat d,d,x,by simp [Fo.flat],fun y hy=>by have:=Fo.flat_ge kids (d+1) y hy;omega,fun y hy=>by rw [Fo.flat_head next d y hy];omega,Int.le_refl _,h1,?_,?_⟩
   ·rw [h3];cases kids with
    | nil=>simp [Fo.flat,Fo.roots]
    | node _ _ _=>simp [Fo.flat,Fo.roots]
   ·rw [h3];exact Fo.flat_roots kids (d+1)
  ·obtain ⟨A,B,C,u,y,e1,hB,hC,hd,e2,e3⟩:=h4.split2 (d:=d+1) s h;refine ⟨(s0,d) :: A,B,C++next.flat d,u,y,by simp [Fo.flat,e1],hB,?_,by omega,e2,e3⟩;intro z hz;cases C with
   | nil=>simp at hz;have:=Fo.flat_head next d z hz;omega
   | cons c C=>exact hC z (by simpa using hz)
  ·obtain ⟨A,B,C,u,y,e1,hB,hC,hd,e2,e3⟩:=h5.split2 (d:=d) s h;exact ⟨(s0,d) :: (kids.flat (d+1)++A),B,C,u,y,by simp [Fo.flat,e1],hB,hC,hd,e2,e3⟩
theorem lastTo_spec {L:List Ent}{A B C:List (Slot×Int)}{s:Slot}{u:Int}(h:L.map Ent.key=A++(s,u) :: (B++C)):∀(k:Nat),k<=B.length->∀y,((B.take k).filter (fun y=>decide (y.2=u+1))).getLast?=some y->
 ∃e,L[lastTo L u A.length k]?=some e/\e.key=y/\A.length<lastTo L u A.length k/\lastTo L u A.length k<A.length+1+k
 | 0,_,y,hy=>by simp at hy
 | k+1,hk,y,hy=>by
  have hlen:L.length=A.length+1+B.length+C.length:=by have:=congrArg List.length h;simp at this;omega
  have hkL:A.length+1+k<L.length:=by omega
  have hget:L[A.length+1+k].key=B[k]:=by
   have h1:(L.map Ent.key)[A.length+1+k]?=some L[A.length+1+k].key:=by simp [hkL]
   rw [h,show A++(s,u) :: (B++C)=(A++[(s,u)])++(B++C) by simp,List.getElem?_append_right (by simp)] at h1;have e:A.length+1+k-(A++[(s,u)]).length=k:=by simp
   rw [e,List.getElem?_append_left (by omega),List.getElem?_eq_getElem (by omega)] at h1;exact (Option.some.inj h1).symm
  rw [List.take_succ_eq_append_getElem (by omega),List.filter_append] at hy;have hto:lastTo L u A.length (k+1)=if L[A.length+1+k].up=u+1 then A.length+1+k else lastTo L u A.length k:=by
   rw [lastTo,List.getElem?_eq_getElem hkL]
  rw [hto];by_cases hu:L[A.length+1+k].up=u+1
  ·simp only [if_pos hu];have hb:B[k].2=u+1:=by rw [<- hget];exact hu
   rw [List.filter_cons_of_pos (by simpa using hb)] at hy;simp at hy;exact ⟨_,List.getElem?_eq_getElem hkL,by rw [hget,hy],by omega,by omega⟩
  ·simp only [if_neg hu];have hb:¬B[k].2=u+1:=by rw [<- hget];exact hu
   rw [List.filter_cons_of_neg (by simpa using hb)] at hy;simp only [List.filter_nil,List.append_nil] at hy;obtain ⟨e,g0,g1,g2,g3⟩:=lastTo_spec h k (by omega) y hy;exact ⟨e,g0,g1,g2,by omega⟩
theorem Rel.kidsOf {R:Ref}{K:Ker}(h:Rel R K)(i:Nat)(hi:i<R.L.length):
 (endI R.L i R.L[i].up=i+1 ↔ hasKids K R.L[i].slot=false)/\(hasKids K R.L[i].slot=true->∃hj:lastKid R.L i R.L[i].up<R.L.length,(R.L[lastKid R.L i R.L[i].up]).slot=lastC K R.L[i].slot/\i<lastKid R.L i R.L[i].up):=by
 obtain ⟨F,hF⟩:=h.tree;have hs:R.L[i].slot∈F.slots:=by rw [hF.slots];exact List.mem_map.2 ⟨_,List.getElem_mem hi,rfl⟩
 obtain ⟨A,B,C,u,x,e1,hB,hC,_,e2,e3,e4⟩:=hF.stands.split2 (d:=0) _ hs;rw [<- hF.flat] at e1;obtain ⟨r1,r2⟩:=split_at hF.nd e1 hi rfl;have r3:=end_at e1 hB hC;rw [r1,<- r2] at r3;have hk:hasKids K R.L[i].slot=decide (0<x.kids.length):=by unfold hasKids;rw [e2]
 constructor
 ·rw [hk,r3];simp only [decide_eq_false_iff_not];constructor
  ·intro g;have:B=[]:=List.length_eq_zero_iff.1 (by omega);rw [e3.1 this];simp
  ·intro g;have:x.kids=[]:=List.length_eq_zero_iff.1 (by omega);rw [e3.2 this];rfl
 ·intro g;rw [hk] at g;simp only [decide_eq_true_eq] at g;have hne:x.kids≠[]:=fun e=>by rw [e] at g;simp at g
  obtain ⟨l,hl⟩:∃l,x.kids.getLast?=some l:=⟨_,List.getLast?_eq_some_getLast hne⟩;have hlast:((B.take B.length).filter (fun y=>decide (y.2=u+1))).getLast?=some (l,u+1):=by
   rw [List.take_length,e4,List.getLast?_map,hl];rfl
  obtain ⟨e,g0,g1,g2,_⟩:=lastTo_spec e1 B.length (Nat.le_refl _) _ hlast;have e5:lastKid R.L i R.L[i].up=lastTo R.L u A.length B.length:=by
   unfold lastKid;rw [r3,r2,r1];congr 1;omega
  rw [<- e5] at g0 g2;obtain ⟨hj,g3⟩:=List.getElem?_eq_some_iff.1 g0;refine ⟨hj,?_,by omega⟩;rw [g3];have:e.slot=l:=congrArg Prod.fst g1;rw [this];unfold lastC;rw [e2];simp only;rw [hl];rfl
def revokeR:Nat->RS->Int->Int->List Bool->Int×RS×List Bool
 | 0,S,_,_,bs=>(0,S,bs)
 | k+1,S,n,i,bs=>match S.R.L.findIdx? (isAt n i) with
  | none=>(0,S,bs)
  | some p=>match S.R.L[p]? with
   | none=>(0,S,bs)
   | some e=>if endI S.R.L p e.up=p+1 then (0,S,bs) else
    match S.R.L[lastKid S.R.L p e.up]? with
    | none=>(0,S,bs)
    | some e'=>if (takeB S (lastKid S.R.L p e.up) e' bs).1=0 then revokeR k (takeB S (lastKid S.R.L p e.up) e' bs).2.1 n i (takeB S (lastKid S.R.L p e.up) e' bs).2.2 else takeB S (lastKid S.R.L p e.up) e' bs
noncomputable def revokeK:Nat->KS->Slot->List Bool->Int×KS×List Bool
 | 0,S,_,bs=>(0,S,bs)
 | k+1,S,s,bs=>if hasKids S.K s then
  if (takeBK S (lastC S.K s) bs).1=0 then revokeK k (takeBK S (lastC S.K s) bs).2.1 s (takeBK S (lastC S.K s) bs).2.2 else takeBK S (lastC S.K s) bs
  else (0,S,bs)
theorem Ag.revoke:∀(k:Nat) {S:RS} {S':KS} (n i:Int) (bs:List Bool),Ag S S'->0<=i->(revokeR k S n i bs).1=(revokeK k S' ⟨n,i⟩ bs).1/\Ag (revokeR k S n i bs).2.1 (revokeK k S' ⟨n,i⟩ bs).2.1/\(bs=[]->S.D=[]->(revokeR k S n i bs).2.1.D=[])
 | 0,_,_,_,_,_,h,_=>⟨rfl,h,fun _ h=>h⟩
 | k+1,S,S',n,i,bs,h,hi0=>by
  unfold revokeR revokeK;have hC:=h.core;rcases hC.rel.idx n i with ⟨e1,e2⟩ | ⟨p,hp,e1,e2,c,e3,e4⟩
  ·rw [e1];have hk:hasKids S'.K ⟨n,i⟩=false:=by
    unfold hasKids;rw [hC.rel.treeOk.empty _ e2 hi0]
   rw [hk];exact ⟨rfl,h,fun _ h=>h⟩
  ·rw [e1];simp only [List.getElem?_eq_getElem hp];obtain ⟨k1,k2⟩:=hC.rel.kidsOf p hp;rw [e2] at k1 k2;by_cases hk:hasKids S'.K ⟨n,i⟩=true
   ·rw [if_pos hk,if_neg (fun e=>by rw [k1.1 e] at hk;cases hk)];obtain ⟨hj,k3,_⟩:=k2 hk;simp only [List.getElem?_eq_getElem hj];obtain ⟨g1,g2,g3,g4,g5⟩:=h.takeB hj bs;rw [k3] at g1 g2 g3;rw [g1,g2];by_cases he:(takeBK S' (lastC S'.K ⟨n,i⟩) bs).1=0
    ·rw [if_pos he,if_pos he];obtain ⟨q1,q2,q3⟩:=Ag.revoke k n i (takeBK S' (lastC S'.K ⟨n,i⟩) bs).2.2 g3 hi0;refine ⟨q1,q2,fun hb _=>?_⟩
     obtain ⟨p1,p2,p3⟩:=g5 hb;exact q3 (by rw [<- g2];exact p2) p3
    ·rw [if_neg he,if_neg he];exact ⟨g1,g3,fun hb _=>(g5 hb).2.2⟩
   ·rw [if_neg hk,if_pos (k1.2 (by simpa using hk))];exact ⟨rfl,h,fun _ h=>h⟩
def clrW (ws:Nat->Int)(a n:Int):Nat->Int:=fun i=>if a<=(i:Int)/\(i:Int)<a+n then 0 else ws i
def resetM (m:Int)(bs:List Bool):Int×List Bool×Bool:=workG (fun m=>max (m-16) 0) (fun m=>decide (m<=0)) 100 m bs
theorem reset_range:∀(n:Nat) (m:Int) (bs:List Bool),0<=m->0<=(workG (fun m=>max (m-16) 0) (fun m=>decide (m<=0)) n m bs).1/\(workG (fun m=>max (m-16) 0) (fun m=>decide (m<=0)) n m bs).1<=m
 | 0,m,bs,h=>⟨h,Int.le_refl _⟩
 | n+1,m,bs,h=>by
  unfold workG;by_cases hd:decide (m<=0)=true
  ·rw [if_pos hd];exact ⟨h,Int.le_refl _⟩
  ·rw [if_neg hd];have h1:0<=max (m-16) 0:=by omega
   have h2:max (m-16) 0<=m:=by omega
   cases bs with
   | nil=>have:=reset_range n (max (m-16) 0) [] h1;exact ⟨this.1,Int.le_trans this.2 h2⟩
   | cons b r=>
    cases b with
    | true=>exact ⟨h1,h2⟩
    | false=>have:=reset_range n (max (m-16) 0) r h1;exact ⟨this.1,Int.le_trans this.2 h2⟩
def carveS (S:RS)(root:Int)(c:Cl)(p:Nat)(e:Ent)(n ix:Int):Int×RS:=((carveR S.R root c p e n ix).1,{S with R:=(carveR S.R root c p e n ix).2})
def resetS (S:RS)(p:Nat)(e:Ent)(m:Int):RS:=⟨{S.R with L:=S.R.L.set p {e with mark:=m}},S.D,clrW S.ws (e.base+m) (e.mark-m),S.q⟩
def retypeB (S:RS)(root:Int)(c:Cl)(p:Nat)(e:Ent)(bs:List Bool):Int×RS:=
 if e.ty≠1 then (3,S)
 else if okObj c=false then (7,S)
 else match findI S.R.L S.R.N root c.to with
  | none=>(2,S)
  | some (n,ix)=>
   if slotsOf S.R.N n<ix+c.count then (2,S)
   else if fullIn S.R.L n ix c.count.toNat then (4,S)
   else if endI S.R.L p e.up=p+1 then
    if (resetM e.mark bs).2.2 then carveS (resetS S p e (resetM e.mark bs).1) root c p {e with mark:=(resetM e.mark bs).1} n ix
    else (8,resetS S p e (resetM e.mark bs).1)
   else carveS S root c p e n ix
def resetK (K:Ker)(f:Slot)(b n m m':Int):Ker:={K with held:=upd K.held f (some (.untyped b n m')),ws:=clrW K.ws (b+m') (m-m')}
def carveKS (S:KS)(f s:Slot)(ty bits root b n m:Int)(cnt:Nat):Int×KS:=((carveK S.K f s ty bits root b n m cnt).1,{S with K:=(carveK S.K f s ty bits root b n m cnt).2})
def retypeKB (S:KS)(root:Int)(c:Cl)(bs:List Bool):Option (Int×KS):=
 match findK S.K root c.at_ with
 | none=>none
 | some f=>match S.K.held f with
  | some (.untyped b n m)=>
   if isObj c.ty c.bits=true/\1<=c.count/\c.count<=8 then
    match rowK S.K root c.to c.count.toNat with
    | none=>none
    | some (_,false)=>some (4,S)
    | some (s,true)=>if hasKids S.K f then some (carveKS S f s c.ty c.bits root b n m c.count.toNat)
     else if (resetM m bs).2.2 then some (carveKS {S with K:=resetK S.K f b n m (resetM m bs).1} f s c.ty c.bits root b n (resetM m bs).1 c.count.toNat)
     else some (8,{S with K:=resetK S.K f b n m (resetM m bs).1})
   else some (7,S)
  | _=>some (3,S)
def orTwoS (S:KS):Option (Int×KS)->Int×KS
 | some y=>y
 | none=>(2,S)
theorem clr_agree {ws ws':Nat->Int}(h:∀i,i<1024->ws i=ws' i)(a n:Int):∀i,i<1024->clrW ws a n i=clrW ws' a n i:=by
 intro i hi;unfold clrW;rw [h i hi]
theorem nodeK_mark {K K':Ker}{f:Slot}{b n m m':Int}(hf:K.held f=some (.untyped b n m))(hh:K'.held=upd K.held f (some (.untyped b n m')))(s:Slot):nodeK K' s=nodeK K s:=by
 unfold nodeK;rw [hh];by_cases e:s=f
 ·rw [e,upd_same,hf]
 ·rw [upd_other _ _ e]
theorem findK_mark {K K':Ker}{f:Slot}{b n m m':Int}(hf:K.held f=some (.untyped b n m))(root:Int)(l:List Int)(hh:K'.held=upd K.held f (some (.untyped b n m')):=by rfl)(hn:K'.nodes=K.nodes:=by rfl):findK K' root l=findK K root l:=by
 unfold findK;have hok:∀nd x,okK K' nd x=okK K nd x:=fun nd x=>by unfold okK nodesI;rw [hn]
 split
 ·rfl
 ·have:∀(l:List Int) (nd:Int),goK K' nd l=goK K nd l:=by
   intro l;induction l with
   | nil=>intro nd;rfl
   | cons x l ih=>
    intro nd;cases l with
    | nil=>simp only [goK,hok]
    | cons y r=>
     simp only [goK,hok,nodeK_mark hf hh];split
     ·cases nodeK K ⟨nd,x⟩ with
      | none=>rfl
      | some nd'=>exact ih nd'
     ·rfl
  exact this l root
theorem carveTo_ws (K:Ker)(f s:Slot)(ty bits root st:Int):∀i:Nat,(carveTo K f s ty bits root st i).ws=K.ws
 | 0=>rfl
 | i+1=>by
  rw [<- carveTo_ws K f s ty bits root st i];simp only [carveTo];generalize madeC ty (st+i*pw bits.toNat) bits=c;cases c<;>rfl
theorem carveK_ws (K:Ker)(f s:Slot)(ty bits root b n m:Int)(cnt:Nat):(carveK K f s ty bits root b n m cnt).2.ws=K.ws:=by
 unfold carveK;split
 ·rfl
 ·exact carveTo_ws _ _ _ _ _ _ _ _
theorem reset_ends:∀(n:Nat) (m:Int),m<=16*n->Ends (fun m=>max (m-16) 0) (fun m=>decide (m<=0)) n m
 | 0,m,h=>by simp only [Ends];simpa using h
 | n+1,m,h=>by
  by_cases h0:m<=0
  ·exact .inl (by simpa using h0)
  ·refine .inr (reset_ends n _ ?_);show max (m-16) 0<=_;push_cast at h;omega
theorem Ag.retype {S:RS}{S':KS}(h:Ag S S')(hD:S.D=[]){p:Nat}(hp:p<S.R.L.length)(root:Int)(c:Cl)(bs:List Bool)(hf:findK S'.K root c.at_=some S.R.L[p].slot):
 (retypeB S root c p S.R.L[p] bs).1=(orTwoS S' (retypeKB S' root c bs)).1/\Ag (retypeB S root c p S.R.L[p] bs).2 (orTwoS S' (retypeKB S' root c bs)).2/\(retypeB S root c p S.R.L[p] bs).2.D=[]:=by
 obtain ⟨hC,hD',hws,hQ⟩:=h;obtain ⟨K,D⟩:=S';obtain ⟨R,D',ws,q0⟩:=S;simp only at hC hD hD' hws hQ hp hf ⊢;subst hD';subst hD;have hA:Ag ⟨R,[],ws,q0⟩ ⟨K,[]⟩:=⟨hC,rfl,hws,hQ⟩;obtain ⟨k,hk,ht⟩:=hC.rel.cap _ (List.getElem_mem hp);obtain ⟨t1,_⟩:=told_tyD ht;unfold retypeKB;simp only [hf,hk];by_cases hu:k.isU=true
 ·cases k with
  | untyped b n m=>
   simp only;have hty:¬R.L[p].ty≠1:=fun e=>e (t1.2 hu)
   have ht':=ht;simp only [KCap.told,Ent.told,Prod.mk.injEq] at ht';obtain ⟨a1,rfl,rfl,a4,a5,rfl⟩:=ht';unfold retypeB;rw [if_neg hty];by_cases hob:okObj c=true
   ·have hob':=(okObj_iff c).1 hob;rw [if_pos hob',if_neg (by simp [hob])];unfold rowK;rw [hC.rel.find];cases hf2:findI R.L R.N root c.to with
    | none=>exact ⟨rfl,hA,rfl⟩
    | some q=>
     obtain ⟨nd,ix⟩:=q;simp only [Option.map_some,toSlot];obtain ⟨o1,o2⟩:=hC.found_ok hf2;have hcnt:((c.count.toNat:Nat):Int)=c.count:=by omega
     have hslots:slotsOf R.N nd=nodesI K nd:=by unfold nodesI;rw [hC.rel.nodes]
     by_cases hroom:slotsOf R.N nd<ix+c.count
     ·have hnok:okK K nd (ix+c.count.toNat-1)=false:=by
       unfold okK;rw [hcnt,<- hslots];have:¬ix+c.count-1<slotsOf R.N nd:=by omega
       simp [this]
      rw [if_pos hroom,hnok];exact ⟨rfl,hA,rfl⟩
     ·have hok:okK K nd (ix+c.count.toNat-1)=true:=by
       unfold okK;rw [hcnt,<- hslots];have g1:ix+c.count-1<slotsOf R.N nd:=by omega
       have g2:0<=ix+c.count-1:=by omega
       simp only [Bool.and_eq_true,decide_eq_true_eq];exact ⟨g2,g1⟩
      rw [if_neg hroom,hok,if_pos rfl,full_all hC.rel];by_cases hfu:fullIn R.L nd ix c.count.toNat=true
      ·rw [if_pos hfu];simp only [hfu,Bool.not_true];exact ⟨rfl,hA,trivial⟩
      ·have hfu':fullIn R.L nd ix c.count.toNat=false:=by simpa using hfu
       rw [if_neg hfu];simp only [hfu',Bool.not_false];obtain ⟨kd1,_⟩:=hC.rel.kidsOf p hp;have hcap:=hC.cap _ _ hk;simp only [KCap.base,KCap.bits,KCap.mark] at hcap;by_cases hkid:hasKids K R.L[p].slot=true
       ·rw [if_neg (fun e=>by rw [kd1.1 e] at hkid;cases hkid),if_pos hkid];obtain ⟨g1,g2,g3⟩:=hC.carves hp root c _ hk rfl hob hf2 hroom hfu';refine ⟨g1,⟨g2,rfl,fun i hi=>?_,hQ.more g3⟩,rfl⟩
        show ws i=(carveK K R.L[p].slot ⟨nd,ix⟩ c.ty c.bits root R.L[p].base R.L[p].bits R.L[p].mark c.count.toNat).2.ws i;rw [carveK_ws];exact hws i hi
       ·rw [if_pos (kd1.2 (by simpa using hkid)),if_neg hkid];obtain ⟨m1,m2⟩:=reset_range 100 R.L[p].mark bs hcap.2.2.2.2.1;generalize hrm:resetM R.L[p].mark bs=y;have hrm':workG (fun m=>max (m-16) 0) (fun m=>decide (m<=0)) 100 R.L[p].mark bs=y:=hrm
        rw [hrm'] at m1 m2;have hC1:=hC.setMark hp hk (m':=y.1) (.inr (by simpa using hkid)) m1 (by omega);have hp1:p<(R.L.set p {R.L[p] with mark:=y.1}).length:=by simpa using hp
        have hg1:(R.L.set p {R.L[p] with mark:=y.1})[p]'hp1={R.L[p] with mark:=y.1}:=by simp
        have hC2:Core {R with L:=R.L.set p {R.L[p] with mark:=y.1}} (resetK K R.L[p].slot R.L[p].base R.L[p].bits R.L[p].mark y.1) []:=
         ⟨⟨hC1.rel.cap,hC1.rel.emp,hC1.rel.tree,hC1.rel.nodes,hC1.rel.thr⟩,hC1.geo,hC1.inN,hC1.dm,hC1.dn,hC1.nod,hC1.cap,hC1.hno,hC1.thd,hC1.hth,hC1.que,hC1.hen,hC1.nd,hC1.td,hC1.nb,hC1.tb,hC1.rt,hC1.dap⟩
        have hQ1:QAg q0 (resetK K R.L[p].slot R.L[p].base R.L[p].bits R.L[p].mark y.1):=hQ.same rfl (fun _ t e1 e2=>⟨t,e1,e2⟩);have hws1:∀i,i<1024->clrW ws (R.L[p].base+y.1) (R.L[p].mark-y.1) i=clrW K.ws (R.L[p].base+y.1) (R.L[p].mark-y.1) i:=clr_agree hws _ _;by_cases hok2:y.2.2=true
        ·rw [if_pos hok2,if_pos hok2];have hfe:findI (R.L.set p {R.L[p] with mark:=y.1}) R.N root c.to=some (nd,ix):=by
          have:=hC2.rel.find root c.to;have h2:=hC.rel.find root c.to;rw [hf2] at h2;have h3:findK (resetK K R.L[p].slot R.L[p].base R.L[p].bits R.L[p].mark y.1) root c.to=findK K root c.to:=findK_mark hk root c.to;rw [h3,h2] at this;cases hq:findI (R.L.set p {R.L[p] with mark:=y.1}) R.N root c.to with
          | none=>rw [hq] at this;cases this
          | some q=>
           rw [hq] at this;simp only [Option.map_some,toSlot,Option.some.injEq,Slot.mk.injEq] at this;obtain ⟨q1,q2⟩:=q;simp only at this;rw [this.1,this.2]
         have hfu1:fullIn (R.L.set p {R.L[p] with mark:=y.1}) nd ix c.count.toNat=false:=by
          have h1:=full_all hC2.rel nd ix c.count.toNat;have h2:=full_all hC.rel nd ix c.count.toNat;have h3:((slotsFrom ⟨nd,ix⟩ c.count.toNat).all fun t=>((resetK K R.L[p].slot R.L[p].base R.L[p].bits R.L[p].mark y.1).held t).isNone)=((slotsFrom ⟨nd,ix⟩ c.count.toNat).all fun t=>(K.held t).isNone):=by
           congr 1;funext t;show (upd K.held R.L[p].slot _ t).isNone=_;by_cases e:t=R.L[p].slot
           ·rw [e,upd_same,hk];rfl
           ·rw [upd_other _ _ e]
          rw [h3,h2,hfu'] at h1;simpa using h1.symm
         have hc3:=hC2.carves (p:=p) hp1 root c y.1 (by rw [hg1];exact upd_same _ _ _) (by rw [hg1]) hob (l:=c.to) hfe hroom hfu1;rw [hg1] at hc3;obtain ⟨g1,g2,g3⟩:=hc3;refine ⟨g1,⟨g2,rfl,fun i hi=>?_,hQ1.more g3⟩,rfl⟩
         show clrW ws (R.L[p].base+y.1) (R.L[p].mark-y.1) i=(carveK (resetK K R.L[p].slot R.L[p].base R.L[p].bits R.L[p].mark y.1) R.L[p].slot ⟨nd,ix⟩ c.ty c.bits root R.L[p].base R.L[p].bits y.1 c.count.toNat).2.ws i;rw [carveK_ws];exact hws1 i hi
        ·rw [if_neg hok2,if_neg hok2];exact ⟨rfl,⟨hC2,rfl,hws1,hQ1⟩,rfl⟩
   ·have hob':¬(isObj c.ty c.bits=true/\1<=c.count/\c.count<=8):=fun e=>hob ((okObj_iff c).2 e)
    rw [if_neg hob',if_pos (by simpa using hob)];exact ⟨rfl,hA,rfl⟩
  | _=>simp [KCap.isU] at hu
 ·have hL:retypeB ⟨R,[],ws,q0⟩ root c p R.L[p] bs=(3,⟨R,[],ws,q0⟩):=by unfold retypeB;rw [if_pos (fun e=>hu (t1.1 e))]
  rw [hL];cases k with
  | untyped b n m=>simp [KCap.isU] at hu
  | _=>exact ⟨rfl,hA,rfl⟩
def smallK (K:Ker)(root:Int)(c:Cl):Option (Int×Ker):=
 if c.kind=2 then copyK K root c else if c.kind=3 then mintK K root c else moveK K root c
def F1:Nat:=20000
theorem F1_eq:F1=20000:=rfl
attribute [irreducible] F1
def doRB (S:RS)(b:Int)(c:Cl)(bs:List Bool):Int×RS:=
 match S.R.T.find? (isBaseT b) with
 | none=>(1,S)
 | some t=>
  if t.state≠1 then (1,S)
  else if c.kind<1\/11<c.kind then (7,S)
  else if c.kind=1\/c.kind=5\/c.kind=6 then
   let y:=workG stepR doneR F0 S bs
   if y.2.2=false then (8,y.1)
   else match findI y.1.R.L y.1.R.N (stillI y.1.R.N t.root) c.at_ with
    | none=>(2,y.1)
    | some (n,ix)=>match y.1.R.L.findIdx? (isAt n ix) with
     | none=>if c.kind=1 then (3,y.1) else (4,y.1)
     | some p=>match y.1.R.L[p]? with
      | none=>(0,y.1)
      | some e=>if c.kind=1 then retypeB y.1 (stillI y.1.R.N t.root) c p e y.2.1
       else if c.kind=5 then ((takeB y.1 p e y.2.1).1,(takeB y.1 p e y.2.1).2.1)
       else ((revokeR F1 y.1 n ix y.2.1).1,(revokeR F1 y.1 n ix y.2.1).2.1)
  else match findI S.R.L S.R.N t.root c.at_ with
   | none=>(2,S)
   | some (n,ix)=>match S.R.L.findIdx? (isAt n ix) with
    | none=>(4,S)
    | some p=>match S.R.L[p]? with
     | none=>(0,S)
     | some e=>((copyL S.R t.root c p e).1,{S with R:={S.R with L:=(copyL S.R t.root c p e).2}})
noncomputable def doKB (S:KS)(th:Int)(c:Cl)(bs:List Bool):Int×KS:=
 match S.K.thr th with
 | none=>(1,S)
 | some t=>
  if t.state≠1 then (1,S)
  else if c.kind<1\/11<c.kind then (7,S)
  else if c.kind=1\/c.kind=5\/c.kind=6 then
   let y:=workG stepK doneK F0 S bs
   if y.2.2=false then (8,y.1)
   else if c.kind=1 then orTwoS y.1 (retypeKB y.1 t.root c y.2.1)
   else match findK y.1.K t.root c.at_ with
    | none=>(2,y.1)
    | some s=>if (y.1.K.held s).isNone then (4,y.1)
     else if c.kind=5 then ((takeBK y.1 s y.2.1).1,(takeBK y.1 s y.2.1).2.1)
     else ((revokeK F1 y.1 s y.2.1).1,(revokeK F1 y.1 s y.2.1).2.1)
  else ((orTwo S.K (smallK S.K t.root c)).1,{S with K:=(orTwo S.K (smallK S.K t.root c)).2})
def sameTQ (K K':Ker):Prop:=K'.ws=K.ws/\K'.thr=K.thr/\K'.qs=K.qs
theorem layChildK_tq (K:Ker)(root:Int)(l:List Int)(k:KCap)(p:Slot):sameTQ K (orTwo K (layChildK K root l k p)).2:=by
 unfold layChildK;split
 ·exact ⟨rfl,rfl,rfl⟩
 ·split<;>exact ⟨rfl,rfl,rfl⟩
theorem smallK_tq (K:Ker)(root:Int)(c:Cl):sameTQ K (orTwo K (smallK K root c)).2:=by
 unfold smallK;split
 ·unfold copyK;split
  ·exact ⟨rfl,rfl,rfl⟩
  ·split
   ·exact ⟨rfl,rfl,rfl⟩
   ·split
    ·exact ⟨rfl,rfl,rfl⟩
    ·split
     ·exact layChildK_tq _ _ _ _ _
     ·exact ⟨rfl,rfl,rfl⟩
 ·split
  ·unfold mintK;split
   ·exact ⟨rfl,rfl,rfl⟩
   ·split
    ·exact ⟨rfl,rfl,rfl⟩
    ·split
     ·split
      ·exact ⟨rfl,rfl,rfl⟩
      ·split
       ·exact layChildK_tq _ _ _ _ _
       ·exact ⟨rfl,rfl,rfl⟩
     ·exact ⟨rfl,rfl,rfl⟩
  ·unfold moveK;split
   ·exact ⟨rfl,rfl,rfl⟩
   ·split
    ·exact ⟨rfl,rfl,rfl⟩
    ·split
     ·exact ⟨rfl,rfl,rfl⟩
     ·split<;>exact ⟨rfl,rfl,rfl⟩
theorem smallK_ws (K:Ker)(root:Int)(c:Cl):(orTwo K (smallK K root c)).2.ws=K.ws:=(smallK_tq K root c).1
theorem Core.small {R:Ref}{K:Ker}{D:List (Int×Int)}(h:Core R K D)(root:Int)(c:Cl)(hk:c.kind=2\/c.kind=3\/c.kind=4):
 ∀y,y=(match findI R.L R.N root c.at_ with
  | none=>((2:Int),R)
  | some (n,ix)=>match R.L.findIdx? (isAt n ix) with
   | none=>(4,R)
   | some p=>match R.L[p]? with
    | none=>(0,R)
    | some e=>((copyL R root c p e).1,{R with L:=(copyL R root c p e).2}))->
 y.1=(orTwo K (smallK K root c)).1/\Core y.2 (orTwo K (smallK K root c)).2 D:=by
 intro y hy;have hA:∀(f:Option (Int×Ker)),(findK K root c.at_=none->f=none)->
  (∀n i,findI R.L R.N root c.at_=some (n,i)->K.held ⟨n,i⟩=none->f=some (4,K))->
  (∀p (hp:p<R.L.length) n i,findI R.L R.N root c.at_=some (n,i)->R.L[p].slot=⟨n,i⟩->∀k,K.held R.L[p].slot=some k->k.told=R.L[p].told->
    (copyL R root c p R.L[p]).1=(orTwo K f).1/\Core {R with L:=(copyL R root c p R.L[p]).2} (orTwo K f).2 D)->
  y.1=(orTwo K f).1/\Core y.2 (orTwo K f).2 D:=by
  intro f f1 f2 f3;subst hy;cases hfi:findI R.L R.N root c.at_ with
  | none=>
   rw [f1 (by rw [h.rel.find,hfi];rfl)];exact ⟨rfl,h⟩
  | some q=>
   obtain ⟨n,i⟩:=q;simp only;rcases h.rel.idx n i with ⟨e1,e2⟩ | ⟨p,hp,e1,e2,k,e3,e4⟩
   ·rw [e1,f2 n i hfi e2];exact ⟨rfl,h⟩
   ·rw [e1];simp only [List.getElem?_eq_getElem hp];rw [<- e2] at e3;exact f3 p hp n i hfi e2 k e3 e4
 have hfk:∀n i,findI R.L R.N root c.at_=some (n,i)->findK K root c.at_=some ⟨n,i⟩:=fun n i e=>by rw [h.rel.find,e];rfl
 unfold smallK;by_cases h2:c.kind=2
 ·simp only [if_pos h2];refine hA (copyK K root c) ?_ ?_ ?_
  ·intro e;unfold copyK;rw [e]
  ·intro n i e e2;unfold copyK;rw [hfk n i e];simp only [e2]
  ·intro p hp n i e e2 k e3 e4;have:copyK K root c=(if k.isU then some (3,K) else if 0<=c.rights/\c.rights<=7 then layChildK K root c.to (lessC k c.rights) R.L[p].slot else some (7,K)):=by
    unfold copyK;rw [hfk n i e];rw [e2] at e3;simp only [e3,e2]
   rw [this];exact h.copy hp root c k e3 e4 h2
 ·simp only [if_neg h2];by_cases h3:c.kind=3
  ·simp only [if_pos h3];refine hA (mintK K root c) ?_ ?_ ?_
   ·intro e;unfold mintK;rw [e]
   ·intro n i e e2;unfold mintK;rw [hfk n i e];simp only [e2]
   ·intro p hp n i e e2 k e3 e4;have:mintK K root c=mintAt K root c R.L[p].slot k:=by
     unfold mintK;rw [hfk n i e];rw [e2] at e3;simp only [e3,e2];rfl
    rw [this];exact h.mint hp root c k e3 e4 h3
  ·simp only [if_neg h3];refine hA (moveK K root c) ?_ ?_ ?_
   ·intro e;unfold moveK;rw [e]
   ·intro n i e e2;unfold moveK;rw [hfk n i e];simp only [e2]
   ·intro p hp n i e e2 k e3 e4;have:moveK K root c=(match findK K root c.to with
     | none=>none
     | some t=>if (K.held t).isSome then some (4,K) else some (0,K.move R.L[p].slot t k)):=by
     unfold moveK;rw [hfk n i e];rw [e2] at e3;simp only [e3,e2];cases findK K root c.to<;>rfl
    rw [this];exact h.moves hp root c k e3 (by omega)
theorem do_agree {S:RS}{S':KS}(h:Ag S S')(th:Int)(c:Cl)(bs:List Bool)(hk:c.kind<=6\/11<c.kind):
 (doRB S th c bs).1=(doKB S' th c bs).1/\Ag (doRB S th c bs).2 (doKB S' th c bs).2/\(bs=[]->S.D=[]->(doRB S th c bs).2.D=[]):=by
 unfold doRB doKB;rw [h.core.rel.thr];cases hf:S.R.T.find? (isBaseT th) with
 | none=>exact ⟨rfl,h,fun _ h=>h⟩
 | some t=>
  simp only [Option.map_some,Thr.thd];by_cases hs:t.state≠1
  ·rw [if_pos hs,if_pos hs];exact ⟨rfl,h,fun _ h=>h⟩
  ·rw [if_neg hs,if_neg hs];by_cases hkk:c.kind<1\/11<c.kind
   ·rw [if_pos hkk,if_pos hkk];exact ⟨rfl,h,fun _ h=>h⟩
   ·rw [if_neg hkk,if_neg hkk];by_cases hw:c.kind=1\/c.kind=5\/c.kind=6
    ·rw [if_pos hw,if_pos hw];obtain ⟨w1,w2⟩:=Ag.work F0 bs h;have wd:=work_done F0 S bs (Ag.ends F0 h h.mu_le).1;have wn:bs=[]->(workG stepR doneR F0 S bs).2=([],true):=by rintro rfl;exact work_nil _ _
     generalize hy:workG stepR doneR F0 S bs=y at w1 w2 wd wn ⊢;generalize hy':workG stepK doneK F0 S' bs=y' at w1 w2 ⊢;obtain ⟨y1,yb,yo⟩:=y;obtain ⟨y1',yb',yo'⟩:=y';simp only [Prod.mk.injEq] at w1 w2 wd wn ⊢;obtain ⟨rfl,rfl⟩:=w1;cases hyo:yo with
     | false=>exact ⟨rfl,w2,fun hb _=>by have:=(wn hb).2;rw [hyo] at this;cases this⟩
     | true=>
      have hDn:y1.D=[]:=doneR_iff.1 (wd hyo);simp only [Bool.true_eq_false,if_false];rw [w2.core.still];have hC:=w2.core;have hfind:=hC.rel.find t.root c.at_;by_cases h1:c.kind=1
      ·simp only [if_pos h1];cases hfi:findI y1.R.L y1.R.N t.root c.at_ with
       | none=>
        rw [hfi] at hfind;unfold retypeKB;rw [hfind];exact ⟨rfl,w2,fun _ _=>hDn⟩
       | some q=>
        obtain ⟨n,i⟩:=q;rw [hfi] at hfind;simp only [Option.map_some,toSlot] at hfind ⊢;rcases hC.rel.idx n i with ⟨e1,e2⟩ | ⟨p,hp,e1,e2,k,e3,e4⟩
        ·rw [e1];unfold retypeKB;rw [hfind];simp only [e2];exact ⟨rfl,w2,fun _ _=>hDn⟩
        ·rw [e1];simp only [List.getElem?_eq_getElem hp,still_eq hfi];obtain ⟨g1,g2,g3⟩:=w2.retype hDn hp t.root c yb (by rw [hfind,e2]);exact ⟨g1,g2,fun _ _=>g3⟩
      ·simp only [if_neg h1];cases hfi:findI y1.R.L y1.R.N t.root c.at_ with
       | none=>
        rw [hfi] at hfind;rw [hfind];exact ⟨rfl,w2,fun _ _=>hDn⟩
       | some q=>
        obtain ⟨n,i⟩:=q;rw [hfi] at hfind;simp only [Option.map_some,toSlot] at hfind;rw [hfind];simp only;rcases hC.rel.idx n i with ⟨e1,e2⟩ | ⟨p,hp,e1,e2,k,e3,e4⟩
        ·rw [e1,e2];exact ⟨rfl,w2,fun _ _=>hDn⟩
        ·rw [e1,e3];simp only [List.getElem?_eq_getElem hp,Option.isNone_some];by_cases h5:c.kind=5
         ·simp only [if_pos h5,Bool.false_eq_true,if_false];obtain ⟨g1,g2,g3,g4,g5⟩:=w2.takeB hp yb;rw [e2] at g1 g2 g3;exact ⟨g1,g3,fun hb _=>(g5 (wn hb).1).2.2⟩
         ·simp only [if_neg h5,Bool.false_eq_true,if_false];obtain ⟨g1,g2,g3⟩:=Ag.revoke F1 n i yb w2 (hC.found_ok hfi).1;exact ⟨g1,g2,fun hb _=>g3 (wn hb).1 hDn⟩
    ·rw [if_neg hw,if_neg hw];obtain ⟨g1,g2⟩:=h.core.small t.root c (by omega) _ rfl;generalize hz:(match findI S.R.L S.R.N t.root c.at_ with
      | none=>((2:Int),S.R)
      | some (n,ix)=>match S.R.L.findIdx? (isAt n ix) with
       | none=>(4,S.R)
       | some p=>match S.R.L[p]? with
        | none=>(0,S.R)
        | some e=>((copyL S.R t.root c p e).1,{S.R with L:=(copyL S.R t.root c p e).2}))=z at g1 g2
     have hz2:(match findI S.R.L S.R.N t.root c.at_ with
      | none=>((2:Int),S)
      | some (n,ix)=>match S.R.L.findIdx? (isAt n ix) with
       | none=>(4,S)
       | some p=>match S.R.L[p]? with
        | none=>(0,S)
        | some e=>((copyL S.R t.root c p e).1,{S with R:={S.R with L:=(copyL S.R t.root c p e).2}}))=(z.1,{S with R:=z.2}):=by
      rw [<- hz];cases findI S.R.L S.R.N t.root c.at_ with
      | none=>rfl
      | some q=>
       obtain ⟨n,i⟩:=q;simp only;cases S.R.L.findIdx? (isAt n i) with
       | none=>rfl
       | some p=>
        simp only;cases S.R.L[p]? with
        | none=>rfl
        | some e=>rfl
     rw [hz2];have htq:=smallK_tq S'.K t.root c;refine ⟨g1,⟨g2,h.d,fun i hi=>?_,h.q.same htq.2.2 (fun x t e1 e2=>⟨t,?_,e2⟩)⟩,fun _ h=>h⟩
     ·rw [smallK_ws];exact h.ws i hi
     ·show (orTwo S'.K (smallK S'.K _ c)).2.thr x=some t;rw [htq.2.1];exact e1
def KGood (S:KS):Prop:=∃R:RS,Ag R S
theorem KGood.step {S:KS}(h:KGood S):KGood (stepK S):=by
 obtain ⟨R,h⟩:=h;exact ⟨_,h.step⟩
theorem KGood.at {S:KS}{R:RS}(h:Ag R S){s:Slot}{c:KCap}(hc:S.K.held s=some c):∃(p:Nat) (hp:p<R.R.L.length),R.R.L[p].slot=s:=by
 by_cases hex:∃e∈R.R.L,e.slot=s
 ·obtain ⟨e,he,rfl⟩:=hex;obtain ⟨p,hp,rfl⟩:=List.getElem_of_mem he;exact ⟨p,hp,rfl⟩
 ·have:=h.core.rel.emp s (fun e he e1=>hex ⟨e,he,e1⟩);rw [hc] at this;cases this
theorem KGood.take {S:KS}{s:Slot}{c:KCap}(h:KGood S)(hc:S.K.held s=some c):KGood (takeK S s):=by
 obtain ⟨R,h⟩:=h;obtain ⟨p,hp,rfl⟩:=KGood.at h hc;exact ⟨_,h.take hp⟩
theorem KGood.tree {S:KS}(h:KGood S):TreeOk S.K:=by
 obtain ⟨R,h⟩:=h;exact h.core.rel.treeOk
theorem KGood.kids {S:KS}(h:KGood S){s:Slot}{x:Std}(hx:S.K.st s=some x):x.kids.length<=16384:=by
 obtain ⟨R,h⟩:=h;exact h.core.kids hx
theorem KGood.sums {S:KS}(h:KGood S)(a:Slot)(x:Std)(p:Slot)(y:Std)(hx:S.K.st a=some x)(hy:S.K.st p=some y):y.kids.length+x.kids.length<=1000000:=by
 have:=h.kids hx;have:=h.kids hy;omega
theorem KGood.lenD {S:KS}(h:KGood S):S.D.length<=1024:=by
 obtain ⟨R,h⟩:=h;rw [h.d];exact h.core.lenD
theorem KGood.dm {S:KS}(h:KGood S)(d:Int×Int)(hd:d∈S.D):0<=d.2/\d.2<=16:=by
 obtain ⟨R,h⟩:=h;rw [h.d] at hd;have:=h.core.dm d hd;exact ⟨this.2.2.1,this.2.2.2.1⟩
theorem KGood.hen {S:KS}(h:KGood S)(s:Slot)(b n r g:Int)(hc:S.K.held s=some (.endpoint b n r g)):∃q,S.K.qs b=some q:=by
 obtain ⟨R,h⟩:=h;exact h.core.hen s b n r g hc
theorem KGood.qs {S:KS}(h:KGood S)(e:Int)(q:List Wtr×List Wtr)(hq:S.K.qs e=some q):q.1.length<=64/\q.2.length<=64:=by
 obtain ⟨R,h⟩:=h;have h1:=h.q.few h.core;rw [h.q.qs e q hq];exact ⟨Nat.le_trans (side_len _ _ _) h1,Nat.le_trans (side_len _ _ _) h1⟩
theorem KGood.ends {S:KS}(h:KGood S):Ends stepK doneK F0 S:=by
 obtain ⟨R,h⟩:=h;exact (h.ends F0 h.mu_le).2
noncomputable def worked (S:KS):KS:=(workG stepK doneK F0 S []).1
theorem workG_done {σ:Type}{step:σ->σ}{done:σ->Bool}:∀(n:Nat) (S:σ),done S=true->workG step done n S []=(S,[],true)
 | 0,_,_=>rfl
 | n+1,S,h=>by unfold workG;rw [if_pos h]
theorem workG_all {σ:Type}{step:σ->σ}{done:σ->Bool}:∀(n:Nat) (S:σ),Ends step done n S->(workG step done n S []).2=([],true)/\done (workG step done n S []).1=true
 | 0,S,h=>⟨rfl,h⟩
 | n+1,S,h=>by
  unfold workG;by_cases hd:done S=true
  ·rw [if_pos hd];exact ⟨rfl,hd⟩
  ·rw [if_neg hd];exact workG_all n (step S) (h.resolve_left hd)
theorem KGood.work {S:KS}(h:KGood S):∀(n:Nat),KGood (workG stepK doneK n S []).1:=by
 intro n;obtain ⟨R,h⟩:=h;exact ⟨_,(h.work n []).2⟩
theorem KGood.worked {S:KS}(h:KGood S):KGood (worked S)/\(worked S).D=[]/\workG stepK doneK F0 S []=(Proofs.YtdpjgflemddekaaDoor.worked S,[],true):=by
 have h1:=workG_all F0 S h.ends;refine ⟨h.work F0,?_,Prod.ext rfl h1.1⟩;have h2:(Proofs.YtdpjgflemddekaaDoor.worked S).D.isEmpty=true:=h1.2;simpa using h2
theorem takeBK_nil {S:KS}{s:Slot}(h:KGood (takeK S s)):takeBK S s []=(0,worked (takeK S s),[]):=by
 obtain ⟨_,_,e⟩:=h.worked;unfold takeBK;simp [pollL,e]
theorem Ag.revStep {R:RS}{S:KS}(h:Ag R S){s:Slot}(hs:0<=s.index)(hk:hasKids S.K s=true):
 ∃c x,S.K.held (lastC S.K s)=some c/\S.K.st s=some x/\x.kids.getLast?=some (lastC S.K s)/\∃R',Ag R' (worked (takeK S (lastC S.K s)))/\R'.R.L.length<R.R.L.length/\∀k,revokeK (k+1) S s []=revokeK k (worked (takeK S (lastC S.K s))) s []:=by
 have hC:=h.core;obtain ⟨n,i⟩:=s;rcases hC.rel.idx n i with ⟨e1,e2⟩ | ⟨p,hp,e1,e2,c,e3,e4⟩
 ·exfalso
  have:hasKids S.K ⟨n,i⟩=false:=by
   unfold hasKids;rw [hC.rel.treeOk.empty _ e2 hs]
  rw [this] at hk;cases hk
 ·obtain ⟨k1,k2⟩:=hC.rel.kidsOf p hp;rw [e2] at k1 k2;obtain ⟨hj,k3,_⟩:=k2 hk;obtain ⟨c',hc',_⟩:=hC.rel.cap _ (List.getElem_mem hj);rw [k3] at hc';obtain ⟨g1,g2,g3,g4,g5⟩:=h.takeB hj [];rw [k3] at g1 g2 g3;have hg:KGood (takeK S (lastC S.K ⟨n,i⟩)):=KGood.take ⟨R,h⟩ hc';have e:=takeBK_nil hg;rw [e] at g3;obtain ⟨x,hx⟩:∃x,S.K.st ⟨n,i⟩=some x:=by
   unfold hasKids at hk;cases hx:S.K.st ⟨n,i⟩ with
   | none=>rw [hx] at hk;cases hk
   | some x=>exact ⟨x,rfl⟩
  have hlast:x.kids.getLast?=some (lastC S.K ⟨n,i⟩):=by
   unfold lastC;rw [hx];simp only;cases hl:x.kids.getLast? with
   | none=>
    rw [List.getLast?_eq_none_iff] at hl;unfold hasKids at hk;rw [hx] at hk;simp [hl] at hk
   | some y=>rfl
  refine ⟨c',x,hc',hx,hlast,_,g3,g4,fun k=>?_⟩
  rw [revokeK,if_pos hk,e];simp
theorem KGood.revoke {S:KS}(h:KGood S)(s:Slot)(hs:0<=s.index):KGood (revokeK F1 S s []).2.1:=by
 obtain ⟨R,h⟩:=h;exact ⟨_,(h.revoke F1 s.node s.index [] hs).2.1⟩
theorem KGood.reset {S:KS}{f:Slot}{b n m m':Int}(h:KGood S)(hk:S.K.held f=some (.untyped b n m))(hkid:hasKids S.K f=false)(h0:0<=m')(h1:m'<=m):KGood ⟨resetK S.K f b n m m',S.D⟩:=by
 obtain ⟨R,hA⟩:=h;obtain ⟨p,hp,rfl⟩:=KGood.at hA hk;obtain ⟨hC,hD,hws,hQ⟩:=hA;obtain ⟨k,hk2,ht⟩:=hC.rel.cap _ (List.getElem_mem hp);rw [hk] at hk2;cases hk2
 simp only [KCap.told,Ent.told,Prod.mk.injEq] at ht;obtain ⟨a1,a2,a3,a4,a5,a6⟩:=ht;have hcap:=hC.cap _ _ hk;simp only [KCap.base,KCap.bits,KCap.mark] at hcap;have hC1:=hC.setMark hp hk (m':=m') (.inr hkid) h0 (by omega);refine ⟨⟨{R.R with L:=R.R.L.set p {R.R.L[p] with mark:=m'}},R.D,clrW R.ws (b+m') (m-m'),R.q⟩,⟨⟨hC1.rel.cap,hC1.rel.emp,hC1.rel.tree,hC1.rel.nodes,hC1.rel.thr⟩,hC1.geo,hC1.inN,hC1.dm,hC1.dn,hC1.nod,hC1.cap,hC1.hno,hC1.thd,hC1.hth,hC1.que,hC1.hen,hC1.nd,hC1.td,hC1.nb,hC1.tb,hC1.rt,hC1.dap⟩,hD,?_,hQ.same rfl (fun _ t e1 e2=>⟨t,e1,e2⟩)⟩;exact clr_agree hws _ _
theorem KGood.retypeOk {S:KS}(h:KGood S):RetypeOk S.K:=by
 obtain ⟨R,h⟩:=h;exact h.core.retypeOk
theorem KGood.untyped {S:KS}(h:KGood S){f:Slot}{b n m:Int}(hk:S.K.held f=some (.untyped b n m)):0<=b/\b<=1024/\0<=m/\m<=1024/\0<=n/\n<=10/\b+m<=1024:=by
 obtain ⟨⟨u1,u2⟩,⟨u3,u4⟩,u5,u6⟩:=h.retypeOk.u f b n m hk;obtain ⟨R,h⟩:=h;have:=h.core.cap _ _ hk;simp only [KCap.base,KCap.bits,KCap.mark] at this;omega
def toldOf:Option KCap->Int×Int×Int×Int×Int×Int
 | some c=>c.told
 | none=>(0,0,0,0,0,0)
def parOf:Option Std->Slot
 | some x=>x.parent
 | none=>⟨0,0⟩
def capOf (K:Ker)(s:Slot):AEnt:=
 ⟨s.node,s.index,(toldOf (K.held s)).1,(toldOf (K.held s)).2.1,(toldOf (K.held s)).2.2.1,(toldOf (K.held s)).2.2.2.1,(toldOf (K.held s)).2.2.2.2.1,(toldOf (K.held s)).2.2.2.2.2,(parOf (K.st s)).node,(parOf (K.st s)).index⟩
theorem capsTo_get (L:List Ent):∀(k:Nat) (_:k<=L.length),∀i (hi:i<k) (h2:i<(capsTo L k).length),(capsTo L k)[i]=aent L i (L[i]'(by omega))
 | 0,_,i,hi,_=>absurd hi (by omega)
 | k+1,hk,i,hi,h2=>by
  have e:=capsTo_succ L k (by omega);have hl:=capsTo_len L k (by omega);have h3:i<(capsTo L k++[aent L k L[k]]).length:=by rw [<- e];exact h2
  have:(capsTo L (k+1))[i]=(capsTo L k++[aent L k L[k]])[i]'h3:=by congr 1
  rw [this];by_cases hik:i<k
  ·rw [List.getElem_append_left (by rw [hl];exact hik)];exact capsTo_get L k (by omega) i hik (by rw [hl];exact hik)
  ·have:i=k:=by omega
   subst this;rw [List.getElem_append_right (by rw [hl];omega)];simp [hl]
theorem Rel.caps {R:Ref}{K:Ker}(h:Rel R K){F:Fo}(hF:TreeRel R.L K.st F):F.slots.map (capOf K)=capsTo R.L R.L.length:=by
 have hsl:=hF.slots;have hlen:(F.slots.map (capOf K)).length=R.L.length:=by rw [hsl];simp
 apply List.ext_getElem
 ·rw [hlen,capsTo_len _ _ (Nat.le_refl _)]
 ·intro i h1 h2;have hi:i<R.L.length:=by rw [<- hlen];exact h1
  rw [capsTo_get R.L R.L.length (Nat.le_refl _) i hi h2];have hs:(F.slots.map (capOf K))[i]=capOf K R.L[i].slot:=by
   simp only [List.getElem_map];congr 1;have:F.slots[i]'(by simpa using h1)=(R.L.map Ent.slot)[i]'(by simpa using hi):=by congr 1
   rw [this];simp
  rw [hs];obtain ⟨c,hc,ht⟩:=h.cap _ (List.getElem_mem hi);have hflat:F.flat 0=(R.L.take i).map Ent.key++(R.L[i].slot,R.L[i].up) :: (R.L.drop (i+1)).map Ent.key:=by
   rw [<- hF.flat];have:=List.take_append_drop i R.L;conv=>lhs;rw [<- this]
   rw [List.map_append,List.drop_eq_getElem_cons hi];rfl
  obtain ⟨x,hx,hp⟩:=hF.stands.parent hflat;have hpar:x.parent=⟨(par R.L R.L[i].up i).1,(par R.L R.L[i].up i).2⟩:=by
   rcases hp with ⟨e1,e2⟩ | ⟨A1,q,A2,e1,e2,e3⟩
   ·rw [e1,par_none R.L 0 i (by omega) ?_]
    ·exact e2
    ·intro e he;have hm:e.key∈F.flat 0:=by
      rw [<- hF.flat];exact List.mem_map.2 ⟨e,List.mem_of_mem_take he,rfl⟩
     have:=Fo.flat_ge F 0 _ hm;simp only [Ent.key] at this;omega
   ·rw [par_some R.L R.L[i].up q i (by omega) A1 A2 e1 e2];exact e3
  unfold capOf aent;rw [hc,hx];simp only [toldOf,parOf,hpar,ht,Ent.told];simp only [Ent.slot]
theorem goneR_ws (S:RS)(ty b bits:Int):(goneR S ty b bits).ws=S.ws:=by
 unfold goneR;split
 ·rfl
 ·split
  ·rfl
  ·split<;>rfl
theorem takeR_ws (S:RS)(i:Nat)(e:Ent):(takeR S i e).ws=S.ws:=by
 unfold takeR;split
 ·rfl
 ·rw [goneR_ws]
theorem takeAtR_ws (S:RS)(n i:Int):(takeAtR S n i).ws=S.ws:=by
 unfold takeAtR;split
 ·rfl
 ·split
  ·rfl
  ·rw [takeR_ws]
theorem stepR_ws (S:RS):(stepR S).ws=S.ws:=by
 unfold stepR;split
 ·rfl
 ·split
  ·rfl
  ·rw [takeAtR_ws]
theorem workR_ws:∀(n:Nat) (S:RS) (bs:List Bool),(workG stepR doneR n S bs).1.ws=S.ws
 | 0,_,_=>rfl
 | n+1,S,bs=>by
  unfold workG;split
  ·rfl
  ·cases bs with
   | nil=>simp only;rw [workR_ws n,stepR_ws]
   | cons b r=>
    simp only;split
    ·exact stepR_ws S
    ·rw [workR_ws n,stepR_ws]
theorem takeB_ws (S:RS)(p:Nat)(e:Ent)(bs:List Bool):(takeB S p e bs).2.1.ws=S.ws:=by
 unfold takeB;split
 ·exact takeR_ws _ _ _
 ·simp only;rw [workR_ws,takeR_ws]
theorem revokeR_ws:∀(k:Nat) (S:RS) (n i:Int) (bs:List Bool),(revokeR k S n i bs).2.1.ws=S.ws
 | 0,_,_,_,_=>rfl
 | k+1,S,n,i,bs=>by
  unfold revokeR;split
  ·rfl
  ·split
   ·rfl
   ·split
    ·rfl
    ·split
     ·rfl
     ·split
      ·rw [revokeR_ws k,takeB_ws]
      ·exact takeB_ws _ _ _ _
theorem retypeB_ws (S:RS)(root:Int)(c:Cl)(p:Nat)(e:Ent)(bs:List Bool)(j:Nat):(retypeB S root c p e bs).2.ws j=S.ws j\/(retypeB S root c p e bs).2.ws j=0:=by
 have hc:∀m,(resetS S p e m).ws j=S.ws j\/(resetS S p e m).ws j=0:=fun m=>by
  show clrW S.ws (e.base+m) (e.mark-m) j=_\/clrW S.ws (e.base+m) (e.mark-m) j=0;unfold clrW;split
  ·exact .inr rfl
  ·exact .inl rfl
 unfold retypeB;split
 ·exact .inl rfl
 ·split
  ·exact .inl rfl
  ·split
   ·exact .inl rfl
   ·split
    ·exact .inl rfl
    ·split
     ·exact .inl rfl
     ·split
      ·split
       ·exact hc _
       ·exact hc _
      ·exact .inl rfl
theorem doRB_ws (S:RS)(b:Int)(c:Cl)(bs:List Bool)(j:Nat):(doRB S b c bs).2.ws j=S.ws j\/(doRB S b c bs).2.ws j=0:=by
 have hy:=workR_ws F0 S bs;unfold doRB;generalize workG stepR doneR F0 S bs=y at hy;obtain ⟨S1,bs1,ok⟩:=y;simp only at hy;simp only;cases S.R.T.find? (isBaseT b) with
 | none=>exact .inl rfl
 | some t=>
  simp only;by_cases h1:t.state≠1
  ·rw [if_pos h1];exact .inl rfl
  ·rw [if_neg h1];by_cases h2:c.kind<1\/11<c.kind
   ·rw [if_pos h2];exact .inl rfl
   ·rw [if_neg h2];by_cases h3:c.kind=1\/c.kind=5\/c.kind=6
    ·rw [if_pos h3];by_cases h4:ok=false
     ·rw [if_pos h4];exact .inl (by rw [hy])
     ·rw [if_neg h4];cases findI S1.R.L S1.R.N (stillI S1.R.N t.root) c.at_ with
      | none=>exact .inl (by rw [hy])
      | some q=>
       obtain ⟨n,ix⟩:=q;simp only;cases S1.R.L.findIdx? (isAt n ix) with
       | none=>
        simp only;by_cases h5:c.kind=1
        ·rw [if_pos h5];exact .inl (by rw [hy])
        ·rw [if_neg h5];exact .inl (by rw [hy])
       | some p=>
        simp only;cases S1.R.L[p]? with
        | none=>exact .inl (by rw [hy])
        | some e=>
         simp only;by_cases h5:c.kind=1
         ·rw [if_pos h5];have:=retypeB_ws S1 (stillI S1.R.N t.root) c p e bs1 j;rw [hy] at this;exact this
         ·rw [if_neg h5];by_cases h6:c.kind=5
          ·rw [if_pos h6];exact .inl (by rw [takeB_ws,hy])
          ·rw [if_neg h6];exact .inl (by rw [revokeR_ws,hy])
    ·rw [if_neg h3];cases findI S.R.L S.R.N t.root c.at_ with
     | none=>exact .inl rfl
     | some q=>
      obtain ⟨n,ix⟩:=q;simp only;cases S.R.L.findIdx? (isAt n ix) with
      | none=>exact .inl rfl
      | some p=>
       simp only;cases S.R.L[p]? with
       | none=>exact .inl rfl
       | some e=>exact .inl rfl
end Go.Proofs.YtdpjgflemddekaaDoor

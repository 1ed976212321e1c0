/- The two kernels do the same. Nothing of the program's text. -/
import Derived.Test.YtdpjgflemddekaaDoorMInvB
namespace Go.Proofs.YtdpjgflemddekaaDoor
def cz (K:a_):Option (Int×a_)->Int×a_
 | some y=>y
 | none=>(2,K)
theorem ab6 (c:Cl):ad_ c=true ↔ jf c.ty c.bits=true/\1<=c.count/\c.count<=8:=by
 simp only [ad_,jf,decide_eq_true_eq,Bool.and_eq_true];by_cases h:0<=c.ty/\c.ty<6
 ·have hty:c.ty=0\/c.ty=1\/c.ty=2\/c.ty=3\/c.ty=4\/c.ty=5:=by omega
  rcases hty with e | e | e | e | e | e<;>rw [e]<;>simp only [ns,qw]<;>constructor
  ·intro h;omega
  ·intro h;omega
  all_goals
   intro h;first
   |(obtain ⟨a1,a2,a3,a4,a5,a6⟩:=h;exact ⟨⟨⟨by omega,by omega⟩,a3,a4⟩,a5,a6⟩)
   |(obtain ⟨⟨⟨a1,a2⟩,a3,a4⟩,a5,a6⟩:=h;exact ⟨by omega,by omega,a3,a4,a5,a6⟩)
 ·constructor
  ·intro h1;omega
  ·intro h1;exact absurd h1.1.1 h
theorem xr {L:List bo}{N:List ya}{r:Int}(h:dw N r=0)(l:List Int):cp L N r l=none:=by
 unfold cp;split
 ·rfl
 ·have hok:∀x,ac6 N r x=false:=by
   intro x;unfold ac6;rw [h];by_cases hx:0<=x
   ·have:¬x<0:=by omega
    simp [this]
   ·simp [hx]
  match l with
  | []=>rfl
  | [x]=>simp [goF,hok]
  | x :: y :: r'=>simp [goF,hok]
theorem cx.still {R:jh}{K:a_}{D:List (Int×Int)}(h:cx R K D)(root:Int)(l:List Int):cp R.L R.N (o6 R.N root) l=cp R.L R.N root l:=by
 unfold o6;split
 ·rfl
 ·rename_i hn;have h1:R.N.find? (ek root)=none:=by
   rw [List.find?_eq_none];intro x hx hb;exact hn (List.any_eq_true.2 ⟨x,hx,hb⟩)
  have h2:dw R.N root=0:=by unfold dw;rw [h1]
  have h3:dw R.N (-1)=0:=by
   unfold dw;cases hf:R.N.find? (ek (-1)) with
   | none=>rfl
   | some x=>
    have hb:=List.find?_some hf;have:=h.nb x (List.mem_of_find?_eq_some hf);simp [ek] at hb;omega
  rw [xr h2,xr h3]
theorem a71 {R:jh}{root:Int}{l:List Int}{p:Int×Int}(hf:cp R.L R.N root l=some p):o6 R.N root=root:=by
 unfold o6;split
 ·rfl
 ·rename_i hn;have h1:R.N.find? (ek root)=none:=by
   rw [List.find?_eq_none];intro x hx hb;exact hn (List.any_eq_true.2 ⟨x,hx,hb⟩)
  have h2:dw R.N root=0:=by unfold dw;rw [h1]
  rw [xr h2] at hf;cases hf
theorem cx.found_ok {R:jh}{K:a_}{D:List (Int×Int)}(h:cx R K D){root n i:Int}{l:List Int}(hf:cp R.L R.N root l=some (n,i)):0<=i/\i<bz K n:=by
 have:=bu0 hf;unfold bz;rw [h.rel.nodes];exact this
theorem x_.idx {R:jh}{K:a_}(h:x_ R K)(n i:Int):(R.L.findIdx? (fh n i)=none/\K.held ⟨n,i⟩=none)\/
 ∃p,∃hp:p<R.L.length,R.L.findIdx? (fh n i)=some p/\R.L[p].slot=⟨n,i⟩/\∃c,K.held ⟨n,i⟩=some c/\c.told=R.L[p].told:=by
 cases hf:R.L.findIdx? (fh n i) with
 | none=>
  refine .inl ⟨rfl,(h.none_iff n i).2 ?_⟩;rw [List.findIdx?_eq_none_iff] at hf;rw [List.find?_eq_none];intro x hx;simp [hf x hx]
 | some p=>
  rw [List.findIdx?_eq_some_iff_getElem] at hf;obtain ⟨hp,h1,_⟩:=hf;have h2:=yi.1 h1;obtain ⟨c,h3,h4⟩:=h.cap _ (List.getElem_mem hp);rw [h2] at h3;exact .inr ⟨p,hp,rfl,h2,c,h3,h4⟩
theorem ai7 {c:KCap}{e:bo}(h:c.told=e.told):(e.ty=1 ↔ c.isU=true)/\(e.ty=3 ↔ c.isE=true):=by
 cases c<;>simp only [KCap.told,bo.told,Prod.mk.injEq] at h<;>obtain ⟨h1,_⟩:=h<;>simp [<- h1,KCap.isU,KCap.isE]
theorem bj9 {c:KCap}{e:bo}(h:c.told=e.told)(hu:c.isU=false)(r n i u:Int):(fi c r).told=bo.told {e with node:=n,index:=i,rights:=fy e.rights r,up:=u}:=by
 cases c<;>simp only [KCap.told,bo.told,Prod.mk.injEq] at h<;>obtain ⟨h1,h2,h3,h4,h5,h6⟩:=h
 ·simp [KCap.isU] at hu
 all_goals simp only [fi,KCap.told,bo.told,Prod.mk.injEq];exact ⟨h1,h2,h3,by rw [h4],h5,h6⟩
theorem bk1 (c:KCap)(r:Int):(fi c r).base=c.base/\(fi c r).bits=c.bits/\(fi c r).mark=c.mark/\(fi c r).isU=c.isU:=by
 cases c<;>exact ⟨rfl,rfl,rfl,rfl⟩
theorem bc9 {a b:Int}(ha:0<=a/\a<=7)(hb:0<=b/\b<=7):0<=fy a b/\fy a b<=7:=by
 obtain ⟨a1,a2⟩:=ha;obtain ⟨b1,b2⟩:=hb;have ea:a=0\/a=1\/a=2\/a=3\/a=4\/a=5\/a=6\/a=7:=by omega
 have eb:b=0\/b=1\/b=2\/b=3\/b=4\/b=5\/b=6\/b=7:=by omega
 rcases ea with rfl | rfl | rfl | rfl | rfl | rfl | rfl | rfl<;>rcases eb with rfl | rfl | rfl | rfl | rfl | rfl | rfl | rfl<;>decide
theorem af0 {c:KCap}{r:Int}(h:0<=c.rights/\c.rights<=7)(hr:0<=r/\r<=7):0<=(fi c r).rights/\(fi c r).rights<=7:=by
 cases c
 ·exact h
 all_goals exact bc9 h hr
theorem cx.child {R:jh}{K:a_}{D:List (Int×Int)}(h:cx R K D){p:Nat}(hp:p<R.L.length)(root:Int)(l:List Int)(c' d:KCap)(x:bo)(hd:K.held R.L[p].slot=some d)(hso:jw d c')(hbg:d.badge=0\/c'.badge=d.badge)
 (hcap:0<=c'.base/\0<=c'.bits/\c'.bits<=10/\c'.base+pw c'.bits.toNat<=1024/\0<=c'.mark/\c'.mark<=pw c'.bits.toNat) (hc:c'.told=x.told) (hrt:0<=c'.rights/\c'.rights<=7) :
 (∃X,(match cp R.L R.N root l with
   | none=>((2:Int),R.L)
   | some (n,i)=>if (R.L.find? (fh n i)).isSome then (4,R.L) else (0,uf R.L p R.L[p].up {x with node:=n,index:=i}))=X/\
   X.1=(cz K (bp K root l c' R.L[p].slot)).1/\cx {R with L:=X.2} (cz K (bp K root l c' R.L[p].slot)).2 D):=by
 refine ⟨_,rfl,?_⟩;unfold bp;rw [h.rel.find];cases hf:cp R.L R.N root l with
 | none=>exact ⟨rfl,h⟩
 | some q=>
  obtain ⟨n,i⟩:=q;simp only [Option.map_some];have hs:K.held (pt (n,i))=K.held ⟨n,i⟩:=rfl;rw [hs,h.rel.isSome];by_cases he:(R.L.find? (fh n i)).isSome=true
  ·simp only [he,if_true];exact ⟨rfl,h⟩
  ·simp only [he];have hn:K.held ⟨n,i⟩=none:=by
    rw [h.rel.none_iff];cases hx:R.L.find? (fh n i) with
    | none=>rfl
    | some y=>rw [hx] at he;exact absurd rfl he
   refine ⟨rfl,?_⟩;exact h.copied hp {x with node:=n,index:=i} c' d (by rw [hc];rfl) hn (h.found_ok hf) hcap hd hso hbg hrt
theorem cx.copy {R:jh}{K:a_}{D:List (Int×Int)}(h:cx R K D){p:Nat}(hp:p<R.L.length)(root:Int)(c:Cl)(k:KCap)(hk:K.held R.L[p].slot=some k)(ht:k.told=R.L[p].told)(hkind:c.kind=2):
 (fw R root c p R.L[p]).1=(cz K (if k.isU then some (3,K) else if 0<=c.rights/\c.rights<=7 then bp K root c.to (fi k c.rights) R.L[p].slot else some (7,K))).1/\
 cx {R with L:=(fw R root c p R.L[p]).2} (cz K (if k.isU then some (3,K) else if 0<=c.rights/\c.rights<=7 then bp K root c.to (fi k c.rights) R.L[p].slot else some (7,K))).2 D:=by
 obtain ⟨t1,_⟩:=ai7 ht;by_cases hu:k.isU=true
 ·have hL:fw R root c p R.L[p]=(3,R.L):=by unfold fw;rw [if_pos (.inl ⟨hkind,t1.2 hu⟩)]
  rw [hL,if_pos hu];exact ⟨rfl,h⟩
 ·rw [if_neg hu];have hty:¬R.L[p].ty=1:=fun e=>hu (t1.1 e)
  have h1:¬(c.kind=2/\R.L[p].ty=1\/c.kind=3/\R.L[p].ty≠3):=by rintro (⟨_,e⟩ | ⟨e,_⟩);exact hty e;omega
  have h2:¬(c.kind=3/\R.L[p].badge≠0):=by rintro ⟨e,_⟩;omega
  by_cases hr:0<=c.rights/\c.rights<=7
  ·rw [if_pos hr];have h3:¬((c.kind≠4/\(c.rights<0\/7<c.rights))\/(c.kind=3/\(c.badge<1\/65535<c.badge))):=by omega
   have h4:¬c.kind=4:=by omega
   have h5:¬c.kind=3:=by omega
   have hu':k.isU=false:=by simpa using hu
   obtain ⟨s1,s2,s3,s4⟩:=bk1 k c.rights;have hcap:=h.cap _ k hk;have hch:=h.child hp root c.to (fi k c.rights) k {R.L[p] with rights:=fy R.L[p].rights c.rights,badge:=R.L[p].badge,up:=0} hk ⟨hu',by cases k<;>rfl,s1.symm,s2.symm⟩ (.inr (by cases k<;>rfl)) (by rw [s1,s2,s3];exact hcap)
    (by rw [bj9 ht hu' c.rights 0 0 0];rfl) (af0 (h.rt _ _ hk) hr)
   obtain ⟨X,hX,hA,hB⟩:=hch;have hL:fw R root c p R.L[p]=X:=by
    rw [<- hX];unfold fw;rw [if_neg h1,if_neg h2,if_neg h3];cases cp R.L R.N root c.to with
    | none=>rfl
    | some q=>
     obtain ⟨n,i⟩:=q;simp only;split
     ·rfl
     ·first | rfl | rw [if_neg h4,if_neg h5]
   rw [hL];exact ⟨hA,hB⟩
  ·rw [if_neg hr];have hL:fw R root c p R.L[p]=(7,R.L):=by unfold fw;rw [if_neg h1,if_neg h2,if_pos (.inl ⟨by omega,by omega⟩)]
   rw [hL];exact ⟨rfl,h⟩
def al8 (K:a_)(root:Int)(c:Cl)(s:Slot)(k:KCap):Option (Int×a_):=
 match k with
 | .endpoint b n q g=>if g≠0 then some (5,K) else if (0<=c.rights/\c.rights<=7)/\1<=c.badge/\c.badge<=65535 then bp K root c.to (fi (.endpoint b n q c.badge) c.rights) s else some (7,K)
 | _=>some (3,K)
theorem cx.mint {R:jh}{K:a_}{D:List (Int×Int)}(h:cx R K D){p:Nat}(hp:p<R.L.length)(root:Int)(c:Cl)(k:KCap)(hk:K.held R.L[p].slot=some k)(ht:k.told=R.L[p].told)(hkind:c.kind=3):
 (fw R root c p R.L[p]).1=(cz K (al8 K root c R.L[p].slot k)).1/\
 cx {R with L:=(fw R root c p R.L[p]).2} (cz K (al8 K root c R.L[p].slot k)).2 D:=by
 obtain ⟨_,t1⟩:=ai7 ht;by_cases he:k.isE=true
 ·cases k with
  | endpoint b n q g=>
   have hcap:=h.cap _ _ hk;have h0:¬c.kind=2:=by omega
   have h4:¬c.kind=4:=by omega
   have h1:¬(c.kind=2/\R.L[p].ty=1\/c.kind=3/\R.L[p].ty≠3):=by rintro (⟨e,_⟩ | ⟨_,e⟩);exact h0 e;exact e (t1.2 he)
   have ht':=ht;simp only [KCap.told,bo.told,Prod.mk.injEq] at ht';obtain ⟨a1,a2,a3,a4,a5,a6⟩:=ht';simp only [al8];by_cases hg:g=0
   ·rw [if_neg (by simp [hg])];have h2:¬(c.kind=3/\R.L[p].badge≠0):=by rintro ⟨_,e⟩;exact e (by rw [<- a5];exact hg)
    by_cases hr:(0<=c.rights/\c.rights<=7)/\1<=c.badge/\c.badge<=65535
    ·rw [if_pos hr];have h3:¬((c.kind≠4/\(c.rights<0\/7<c.rights))\/(c.kind=3/\(c.badge<1\/65535<c.badge))):=by omega
     have hch:=h.child hp root c.to (fi (.endpoint b n q c.badge) c.rights) (.endpoint b n q g) {R.L[p] with rights:=fy R.L[p].rights c.rights,badge:=c.badge,up:=0} hk ⟨rfl,rfl,rfl,rfl⟩ (.inl hg) hcap
      (by simp only [fi,KCap.told,bo.told,Prod.mk.injEq];exact ⟨a1,a2,a3,by rw [a4],trivial,a6⟩) (af0 (c:=.endpoint b n q c.badge) (h.rt _ (.endpoint b n q g) hk) hr.1)
     obtain ⟨X,hX,hA,hB⟩:=hch;have hL:fw R root c p R.L[p]=X:=by
      rw [<- hX];unfold fw;rw [if_neg h1,if_neg h2,if_neg h3];cases cp R.L R.N root c.to with
      | none=>rfl
      | some q=>
       obtain ⟨n,i⟩:=q;simp only;split
       ·rfl
       ·first | rfl | rw [if_neg h4,if_pos hkind]
     rw [hL];exact ⟨hA,hB⟩
    ·rw [if_neg hr];have hL:fw R root c p R.L[p]=(7,R.L):=by unfold fw;rw [if_neg h1,if_neg h2,if_pos (by omega)]
     rw [hL];exact ⟨rfl,h⟩
   ·rw [if_pos hg];have hL:fw R root c p R.L[p]=(5,R.L):=by unfold fw;rw [if_neg h1,if_pos ⟨hkind,by rw [<- a5];exact hg⟩]
    rw [hL];exact ⟨rfl,h⟩
  | _=>simp [KCap.isE] at he
 ·have hL:fw R root c p R.L[p]=(3,R.L):=by unfold fw;rw [if_pos (.inr ⟨hkind,fun e=>he (t1.1 e)⟩)]
  have hM:al8 K root c R.L[p].slot k=some (3,K):=by
   cases k<;>first | rfl | (simp [KCap.isE] at he)
  rw [hL,hM];exact ⟨rfl,h⟩
theorem cx.moves {R:jh}{K:a_}{D:List (Int×Int)}(h:cx R K D){p:Nat}(hp:p<R.L.length)(root:Int)(c:Cl)(k:KCap)(hk:K.held R.L[p].slot=some k)(hkind:c.kind=4):
 (fw R root c p R.L[p]).1=(cz K (match ay K root c.to with
   | none=>none
   | some t=>if (K.held t).isSome then some (4,K) else some (0,K.move R.L[p].slot t k))).1/\
 cx {R with L:=(fw R root c p R.L[p]).2} (cz K (match ay K root c.to with
  | none=>none
  | some t=>if (K.held t).isSome then some (4,K) else some (0,K.move R.L[p].slot t k))).2 D:=by
 have h1:¬(c.kind=2/\R.L[p].ty=1\/c.kind=3/\R.L[p].ty≠3):=by omega
 have h2:¬(c.kind=3/\R.L[p].badge≠0):=by omega
 have h3:¬((c.kind≠4/\(c.rights<0\/7<c.rights))\/(c.kind=3/\(c.badge<1\/65535<c.badge))):=by omega
 have hL:fw R root c p R.L[p]=(match cp R.L R.N root c.to with
  | none=>(2,R.L)
  | some (n,i)=>if (R.L.find? (fh n i)).isSome then (4,R.L) else (0,R.L.set p {R.L[p] with node:=n,index:=i})):=by
  unfold fw;rw [if_neg h1,if_neg h2,if_neg h3];cases cp R.L R.N root c.to with
  | none=>rfl
  | some q=>
   obtain ⟨n,i⟩:=q;simp only;split
   ·rfl
   ·first | rfl | rw [if_pos hkind]
 rw [hL,h.rel.find];cases hf:cp R.L R.N root c.to with
 | none=>exact ⟨rfl,h⟩
 | some q=>
  obtain ⟨n,i⟩:=q;simp only [Option.map_some];have hs:K.held (pt (n,i))=K.held ⟨n,i⟩:=rfl;rw [hs,h.rel.isSome];by_cases he:(R.L.find? (fh n i)).isSome=true
  ·simp only [he,if_true];exact ⟨rfl,h⟩
  ·simp only [he];have hn:K.held ⟨n,i⟩=none:=by
    rw [h.rel.none_iff];cases hx:R.L.find? (fh n i) with
    | none=>rfl
    | some y=>rw [hx] at he;exact absurd rfl he
   exact ⟨rfl,h.move hp k hk n i hn (h.found_ok hf)⟩
theorem aj0 {R:jh}{K:a_}(h:x_ R K)(n ix:Int)(cnt:Nat):((cy ⟨n,ix⟩ cnt).all fun t=>(K.held t).isNone)=!k_ R.L n ix cnt:=by
 unfold cy k_;rw [Bool.eq_iff_iff];simp only [List.all_map,List.all_eq_true,Bool.not_eq_true',Function.comp];rw [<- Bool.not_eq_true,List.any_eq_true];constructor
 ·rintro h1 ⟨i,hi,h2⟩;have:=h1 i hi;rw [<- h.isSome] at h2;rw [Option.isNone_iff_eq_none] at this;rw [this] at h2;cases h2
 ·intro h1 i hi;rw [Option.isNone_iff_eq_none];cases hh:K.held ⟨n,ix+i⟩ with
  | none=>rfl
  | some k=>exact absurd ⟨i,hi,by rw [<- h.isSome,hh];rfl⟩ h1
def xz (R:jh)(root:Int)(c:Cl)(p:Nat)(e:bo)(n ix:Int):Int×jh:=
 if e.base+pw e.bits.toNat<xa c e+c.count*pw c.bits.toNat then (6,R)
 else (0,xc {R with L:=R.L.set p {e with mark:=xa c e+c.count*pw c.bits.toNat-e.base}} root p e.up n ix c (xa c e) c.count.toNat)
theorem a94 {ty bits s:Int}(hob:jf ty bits=true)(e:ty=4):ki s (pw bits.toNat) % 16=0:=by
 simp only [jf,Bool.and_eq_true,decide_eq_true_eq] at hob;subst e;simp only [ns,qw] at hob;have:bits=4:=by omega
 subst this;have:pw (4:Int).toNat=16:=by decide
 rw [this];unfold ki;split<;>omega
theorem cx.carves {R:jh}{K:a_}(h:cx R K []){p:Nat}(hp:p<R.L.length)(root:Int)(c:Cl)(m:Int)(hk:K.held R.L[p].slot=some (.untyped R.L[p].base R.L[p].bits m))(hm:R.L[p].mark=m)
 (hob:ad_ c=true) {nd ix:Int} {l:List Int} (hf:cp R.L R.N root l=some (nd,ix)) (hroom:¬dw R.N nd<ix+c.count) (hfu:k_ R.L nd ix c.count.toNat=false) :
 (xz R root c p R.L[p] nd ix).1=(jd K R.L[p].slot ⟨nd,ix⟩ c.ty c.bits root R.L[p].base R.L[p].bits m c.count.toNat).1/\
 cx (xz R root c p R.L[p] nd ix).2 (jd K R.L[p].slot ⟨nd,ix⟩ c.ty c.bits root R.L[p].base R.L[p].bits m c.count.toNat).2 []/\uw K (jd K R.L[p].slot ⟨nd,ix⟩ c.ty c.bits root R.L[p].base R.L[p].bits m c.count.toNat).2:=by
 subst hm;have hob':=(ab6 c).1 hob;obtain ⟨o1,o2⟩:=h.found_ok hf;have hcnt:((c.count.toNat:Nat):Int)=c.count:=by omega
 have hslots:dw R.N nd=bz K nd:=by unfold bz;rw [h.rel.nodes]
 unfold xz jd xa;rw [hcnt];by_cases hrm:R.L[p].base+pw R.L[p].bits.toNat<ki (R.L[p].base+R.L[p].mark) (pw c.bits.toNat)+c.count*pw c.bits.toNat
 ·rw [if_pos hrm,if_pos hrm];exact ⟨rfl,h,uw.refl K⟩
 ·rw [if_neg hrm,if_neg hrm];refine ⟨rfl,?_⟩;have hcap:=h.cap _ _ hk;simp only [KCap.base,KCap.bits,KCap.mark] at hcap;obtain ⟨c1,c2,c3,c4,c5,c6⟩:=hcap;have hpos:=gy c.bits.toNat;have halg:c.ty=4->ki (R.L[p].base+R.L[p].mark) (pw c.bits.toNat) % 16=0:=a94 hob'.1;have hge:=ag6 (R.L[p].base+R.L[p].mark) (pw c.bits.toNat) (by omega);generalize hst:ki (R.L[p].base+R.L[p].mark) (pw c.bits.toNat)=st at hrm hge halg ⊢;have hmul:1*pw c.bits.toNat<=c.count*pw c.bits.toNat:=Int.mul_le_mul_of_nonneg_right hob'.2.1 (by omega);have hempty:∀i:Nat,i<c.count.toNat->K.held ⟨nd,ix+i⟩=none:=by
   intro i hi;cases hh:K.held ⟨nd,ix+i⟩ with
   | none=>rfl
   | some x=>
    have:=bd5 (L:=R.L) (n:=nd) (ix:=ix) hi (by rw [<- h.rel.isSome,hh];rfl);rw [hfu] at this;cases this
  have hfne:∀j:Nat,j<c.count.toNat->R.L[p].slot≠⟨nd,ix+j⟩:=by
   intro j hj e;have:=hempty j hj;rw [<- e,hk] at this;cases this
  rw [<- as1 K R.L[p].slot nd ix c.ty c.bits root st (.untyped R.L[p].base R.L[p].bits (st+c.count*pw c.bits.toNat-R.L[p].base)) c.count.toNat hfne];have hC1:=h.setMark hp hk (m':=st+c.count*pw c.bits.toNat-R.L[p].base) (.inl (by omega)) (by omega) (by omega);have hF0:=h.free hk (a:=st) (z:=c.count*pw c.bits.toNat) (by omega) (by omega);have hF1:ag3 {K with held:=upd K.held R.L[p].slot (some (.untyped R.L[p].base R.L[p].bits (st+c.count*pw c.bits.toNat-R.L[p].base)))} R.L[p].slot st (c.count*pw c.bits.toNat):=by
   intro s e hs he;have he':upd K.held R.L[p].slot (some (.untyped R.L[p].base R.L[p].bits (st+c.count*pw c.bits.toNat-R.L[p].base))) s=some e:=he;rw [af _ _ hs] at he';exact hF0 s e hs he'
  have hp1:p<(R.L.set p {R.L[p] with mark:=st+c.count*pw c.bits.toNat-R.L[p].base}).length:=by simpa using hp
  have hg1:(R.L.set p {R.L[p] with mark:=st+c.count*pw c.bits.toNat-R.L[p].base})[p]'hp1={R.L[p] with mark:=st+c.count*pw c.bits.toNat-R.L[p].base}:=by simp
  have hup:((R.L.set p {R.L[p] with mark:=st+c.count*pw c.bits.toNat-R.L[p].base})[p]'hp1).up=R.L[p].up:=by rw [hg1]
  have hsl:((R.L.set p {R.L[p] with mark:=st+c.count*pw c.bits.toNat-R.L[p].base})[p]'hp1).slot=R.L[p].slot:=by rw [hg1];rfl
  have hall:=hC1.carve hp1 c nd ix st root c.count.toNat hob'.1 (fun i hi=>by
   show upd K.held R.L[p].slot _ _=none;rw [af _ _ (Ne.symm (hfne i hi))];exact hempty i hi)
   ⟨o1,by show ix+_<=bz K nd;rw [hcnt];omega⟩ (b:=R.L[p].base) (nn:=R.L[p].bits) (m:=st+c.count*pw c.bits.toNat-R.L[p].base) (by rw [hsl];exact ai _ _ _) ⟨by omega,by rw [hcnt];omega⟩ (by rw [hcnt,hsl];exact hF1) halg c.count.toNat (Nat.le_refl _)
  simp only [hup,hsl] at hall;obtain ⟨_,_,_,hD,_,_,_,_,hM⟩:=hall;exact ⟨hD,⟨hM.thr,hM.qs,hM.new⟩⟩
theorem b11 (R:jh)(ws:Nat->Int)(q:List Wt)(ty b bits:Int):∃R' ext q',(∀D0,ae8 ⟨R,D0,ws,q⟩ ty b bits=⟨R',D0++ext,ws,q'⟩)/\R'.L=R.L/\(ext=[]\/ty=2/\ext=[(b,pw (bits-2).toNat)]):=by
 unfold ae8;by_cases h:ty=2
 ·exact ⟨{R with N:=R.N.filter (fun l=>!ek b l),T:=R.T.map (ma b)},[(b,pw (bits-2).toNat)],q,fun D0=>by rw [if_pos h],rfl,.inr ⟨h,rfl⟩⟩
 ·by_cases h3:ty=3
  ·exact ⟨{R with T:=(q.foldl (lh b) (R.T,q)).1},[],(q.foldl (lh b) (R.T,q)).2,fun D0=>by rw [if_neg h,if_pos h3,List.append_nil],rfl,.inl rfl⟩
  ·by_cases h4:ty=4
   ·exact ⟨{R with T:=R.T.filter (fun t=>!ao b t)},[],o_ b q,fun D0=>by rw [if_neg h,if_neg h3,if_pos h4,List.append_nil],rfl,.inl rfl⟩
   ·exact ⟨R,[],q,fun D0=>by rw [if_neg h,if_neg h3,if_neg h4,List.append_nil],rfl,.inl rfl⟩
theorem at6 (R:jh)(ws:Nat->Int)(q:List Wt)(p:Nat)(e:bo):∃R' ext q',(∀D0,jg ⟨R,D0,ws,q⟩ p e=⟨R',D0++ext,ws,q'⟩)/\R'.L=nw R.L p e.up/\(ext=[]\/e.ty=2/\ext=[(e.base,pw (e.bits-2).toNat)]):=by
 unfold jg;by_cases h:(nw R.L p e.up).any (ar5 e.ty e.base)=true
 ·exact ⟨{R with L:=nw R.L p e.up},[],q,fun D0=>by simp only;rw [if_pos h,List.append_nil],rfl,.inl rfl⟩
 ·obtain ⟨R',ext,q',h1,h2,h3⟩:=b11 {R with L:=nw R.L p e.up} ws q e.ty e.base e.bits;exact ⟨R',ext,q',fun D0=>by simp only;rw [if_neg h];exact h1 D0,h2,h3⟩
theorem by8 (K:a_)(s:Slot):∃K' ext,(∀D0,d_ ⟨K,D0⟩ s=⟨K',D0++ext⟩)/\(K'.held s=none)/\K'.ws=K.ws:=by
 cases hc:K.held s with
 | none=>exact ⟨K,[],fun D0=>by rw [kw hc,List.append_nil],hc,rfl⟩
 | some c=>
  by_cases hh:pp (jq K s) c.ty c.base
  ·exact ⟨jq K s,[],fun D0=>by rw [jn hc hh,List.append_nil],ai _ _ _,rfl⟩
  ·cases c with
   | untyped b n m=>exact ⟨jq K s,[],fun D0=>by rw [fo hc hh,List.append_nil];rfl,ai _ _ _,rfl⟩
   | frame b n m=>exact ⟨jq K s,[],fun D0=>by rw [fo hc hh,List.append_nil];rfl,ai _ _ _,rfl⟩
   | node b n m=>exact ⟨ah6 (jq K s) b,[(b,bz K b)],fun D0=>by rw [fo hc hh];rfl,ai _ _ _,rfl⟩
   | task b n m=>exact ⟨bd6 (jq K s) b,[],fun D0=>by rw [fo hc hh,List.append_nil];rfl,ai _ _ _,rfl⟩
   | endpoint b n m g=>exact ⟨im (jq K s) b,[],fun D0=>by rw [fo hc hh,List.append_nil];rfl,ai _ _ _,rfl⟩
theorem cx.lower {R:jh}{K:a_}{A E:List (Int×Int)}{nd left:Int}(h:cx R K (A++(nd,left) :: E))(hl:0<left)(he:K.held ⟨nd,left-1⟩=none):cx R K (A++(nd,left-1) :: E):=by
 refine ⟨h.rel,h.geo,?_,?_,?_,h.nod,h.cap,h.hno,h.thd,h.hth,h.que,h.hen,h.nd,h.td,h.nb,h.tb,h.rt,?_⟩
 ·intro s c hs;obtain ⟨g1,g2⟩:=h.inN s c hs;refine ⟨g1,?_⟩;rcases g2 with g2 | ⟨d,hd,g2,g3⟩
  ·exact .inl g2
  ·simp only [List.mem_append,List.mem_cons] at hd;rcases hd with hd | rfl | hd
   ·exact .inr ⟨d,by simp [hd],g2,g3⟩
   ·simp only at g2 g3;refine .inr ⟨(nd,left-1),by simp,g2,?_⟩;show s.index<left-1;by_cases e:s.index=left-1
    ·exfalso
     have:s=⟨nd,left-1⟩:=by cases s;simp only at g2 e;rw [g2,e]
     rw [this,he] at hs;cases hs
    ·omega
   ·exact .inr ⟨d,by simp [hd],g2,g3⟩
 ·intro d hd;simp only [List.mem_append,List.mem_cons] at hd;rcases hd with hd | rfl | hd
  ·exact h.dm d (by simp [hd])
  ·obtain ⟨g1,g2,g3,g4,g5⟩:=h.dm (nd,left) (by simp);exact ⟨g1,g2,by dsimp only at *;omega,by dsimp only at *;omega,g5⟩
  ·exact h.dm d (by simp [hd])
 ·have:=h.dn;simpa using this
 ·intro d hd s c hs hu;simp only [List.mem_append,List.mem_cons] at hd;rcases hd with hd | rfl | hd
  ·exact h.dap d (by simp [hd]) s c hs hu
  ·exact h.dap (nd,left) (by simp) s c hs hu
  ·exact h.dap d (by simp [hd]) s c hs hu
theorem cx.dropD {R:jh}{K:a_}{A:List (Int×Int)}{nd:Int}(h:cx R K (A++[(nd,0)])):cx R K A:=by
 refine ⟨h.rel,h.geo,?_,fun d hd=>h.dm d (by simp [hd]),?_,h.nod,h.cap,h.hno,h.thd,h.hth,h.que,h.hen,h.nd,h.td,h.nb,h.tb,h.rt,fun d hd=>h.dap d (by simp [hd])⟩
 ·intro s c hs;obtain ⟨g1,g2⟩:=h.inN s c hs;refine ⟨g1,?_⟩;rcases g2 with g2 | ⟨d,hd,g2,g3⟩
  ·exact .inl g2
  ·simp only [List.mem_append,List.mem_singleton] at hd;rcases hd with hd | rfl
   ·exact .inr ⟨d,hd,g2,g3⟩
   ·simp only at g3;omega
 ·have:=h.dn;rw [List.map_append,List.nodup_append] at this;exact this.1
theorem xe (D:List (Int×Int)):D=[]\/∃A nd left,D=A++[(nd,left)]/\D.getLast?=some (nd,left)/\D.dropLast=A:=by
 rcases List.eq_nil_or_concat D with h | ⟨A,d,rfl⟩
 ·exact .inl h
 ·exact .inr ⟨A,d.1,d.2,by simp,by simp,by simp⟩
theorem ah9 {R:jh}{A:List (Int×Int)}{nd:Int}{ws:Nat->Int}{q:List Wt}:em ⟨R,A++[(nd,0)],ws,q⟩=⟨R,A,ws,q⟩:=by
 unfold em;simp
theorem ak7 {R:jh}{A:List (Int×Int)}{nd left:Int}{ws:Nat->Int}{q:List Wt}(h:left≠0):em ⟨R,A++[(nd,left)],ws,q⟩=sr ⟨R,A++[(nd,left-1)],ws,q⟩ nd (left-1):=by
 unfold em;simp [h]
theorem ba1 {K:a_}{A:List (Int×Int)}{nd:Int}:az ⟨K,A++[(nd,0)]⟩=⟨K,A⟩:=by
 unfold az;simp
theorem a99 {K:a_}{A:List (Int×Int)}{nd left:Int}(h:left≠0):az ⟨K,A++[(nd,left)]⟩=d_ ⟨K,A++[(nd,left-1)]⟩ ⟨nd,left-1⟩:=by
 unfold az;simp [h]
theorem Ag.step {S:RS}{S':KS}(h:Ag S S'):Ag (em S) (az S'):=by
 obtain ⟨hC,hD,hws,hQ⟩:=h;obtain ⟨K,D⟩:=S';obtain ⟨R,D',ws,q⟩:=S;simp only at hC hD hws hQ;subst hD;rcases xe D with rfl | ⟨A,nd,left,rfl,_,_⟩
 ·exact ⟨hC,rfl,hws,hQ⟩
 ·obtain ⟨b1,b2,b3,b4,_⟩:=hC.dm (nd,left) (by simp);dsimp only at b1 b2 b3 b4;by_cases hl:left=0
  ·subst hl;rw [ah9,ba1];exact ⟨hC.dropD,rfl,hws,hQ⟩
  ·rw [ak7 hl,a99 hl];unfold sr;simp only;rcases hC.rel.idx nd (left-1) with ⟨e1,e2⟩ | ⟨p,hp,e1,e2,c,e3,e4⟩
   ·rw [e1,kw e2];exact ⟨hC.lower (E:=[]) (by omega) e2,rfl,hws,hQ⟩
   ·rw [e1];simp only [List.getElem?_eq_getElem hp];obtain ⟨R1,ext,q1,r1,r2,_⟩:=at6 R ws q p R.L[p];obtain ⟨K1,ext',k1,k2,k3⟩:=by8 K ⟨nd,left-1⟩;have hA:=(Ag.mk (S:=⟨R,A++[(nd,left)],ws,q⟩) (S':=⟨K,A++[(nd,left)]⟩) hC rfl hws hQ).take (p:=p) hp;rw [e2] at hA;rw [r1,k1] at hA ⊢;obtain ⟨a1,a2,a3,a4⟩:=hA;simp only at a1 a2 a3 a4;have hext:ext'=ext:=List.append_cancel_left a2;subst hext;rw [List.append_assoc] at a1 ⊢;exact ⟨a1.lower (by omega) k2,rfl,a3,a4⟩
theorem Ag.done {S:RS}{S':KS}(h:Ag S S'):eh S=bf S':=by unfold eh bf;rw [h.d]
theorem Ag.work:∀(n:Nat) {S:RS} {S':KS} (bs:List Bool),Ag S S'->(ak em eh n S bs).2=(ak az bf n S' bs).2/\Ag (ak em eh n S bs).1 (ak az bf n S' bs).1
 | 0,_,_,_,h=>⟨rfl,h⟩
 | n+1,S,S',bs,h=>by
  unfold ak;rw [h.done];by_cases hd:bf S'=true
  ·rw [if_pos hd,if_pos hd];exact ⟨rfl,h⟩
  ·rw [if_neg hd,if_neg hd];cases bs with
   | nil=>exact Ag.work n [] h.step
   | cons b r=>
    cases b with
    | true=>exact ⟨rfl,h.step⟩
    | false=>exact Ag.work n r h.step
def muD (D:List (Int×Int)):Nat:=(D.map fun d=>d.2.toNat+1).sum
def mu (S:RS):Nat:=18*S.R.L.length+muD S.D
theorem pu (A B:List (Int×Int)):muD (A++B)=muD A+muD B:=by simp [muD]
theorem aw6 {S:RS}{S':KS}(h:Ag S S'){p:Nat}(hp:p<S.R.L.length):mu (jg S p S.R.L[p])+1<=mu S/\(jg S p S.R.L[p]).R.L.length+1=S.R.L.length:=by
 obtain ⟨hC,hD,hws,hQ⟩:=h;obtain ⟨R,D,ws,q⟩:=S;simp only at hC hp;obtain ⟨R1,ext,q1,r1,r2,r3⟩:=at6 R ws q p R.L[p];simp only [r1,mu,r2,pu];have hlen:=bn2 hp;have hext:muD ext<=17:=by
  rcases r3 with rfl | ⟨hty,rfl⟩
  ·simp [muD]
  ·obtain ⟨c,hc,ht⟩:=hC.rel.cap _ (List.getElem_mem hp);have h2:=sc ht;obtain ⟨hb,hbi,_⟩:=pl ht;rw [hty] at h2;have:pw (R.L[p].bits-2).toNat<=16:=by
    cases c with
    | node b n r=>
     obtain ⟨n3,n6,hnb⟩:=hC.hno _ _ _ _ hc;obtain ⟨q1,q2⟩:=xw n3 n6;simp only [KCap.bits] at hbi;rw [<- hbi];rw [q1] at q2;simpa [pw] using q2
    | _=>simp only [KCap.ty] at h2;omega
   simp only [muD,List.map_cons,List.map_nil,List.sum_cons,List.sum_nil];omega
 exact ⟨by omega,hlen⟩
theorem ag9 {S:RS}{S':KS}(h:Ag S S')(hd:eh S=false):mu (em S)+1<=mu S/\(em S).R.L.length<=S.R.L.length:=by
 obtain ⟨R,D,ws,q⟩:=S;have hC:=h.core;simp only at hC;rcases xe D with rfl | ⟨A,nd,left,rfl,_,_⟩
 ·simp [eh] at hd
 ·obtain ⟨b1,b2,b3,b4,_⟩:=hC.dm (nd,left) (by simp);dsimp only at b1 b2 b3 b4;by_cases hl:left=0
  ·subst hl;rw [ah9];simp only [mu,pu];simp only [muD,List.map_cons,List.map_nil,List.sum_cons,List.sum_nil];omega
  ·rw [ak7 hl];unfold sr;simp only;have hlow:muD (A++[(nd,left-1)])+1=muD (A++[(nd,left)]):=by
    rw [pu,pu];simp only [muD,List.map_cons,List.map_nil,List.sum_cons,List.sum_nil];omega
   rcases hC.rel.idx nd (left-1) with ⟨e1,e2⟩ | ⟨p,hp,e1,e2,c,e3,e4⟩
   ·rw [e1];simp only [mu];omega
   ·rw [e1];simp only [List.getElem?_eq_getElem hp];have h1:=aw6 h (p:=p) hp;simp only at h1;obtain ⟨R1,ext,q1,r1,r2,r3⟩:=at6 R ws q p R.L[p];rw [r1] at h1 ⊢;simp only [mu,pu (A++_) ext] at h1 ⊢;omega
theorem Ag.ends:∀(n:Nat) {S:RS} {S':KS},Ag S S'->mu S<=n->qi em eh n S/\qi az bf n S'
 | 0,S,S',h,hm=>by
  have:eh S=true:=by
   cases hd:eh S with
   | true=>rfl
   | false=>have:=ag9 h hd;omega
  exact ⟨this,by rw [qi,<- h.done];exact this⟩
 | n+1,S,S',h,hm=>by
  cases hd:eh S with
  | true=>exact ⟨.inl hd,.inl (by rw [<- h.done];exact hd)⟩
  | false=>
   have:=ag9 h hd;obtain ⟨g1,g2⟩:=Ag.ends n h.step (by omega);exact ⟨.inr g1,.inr g2⟩
theorem br6:∀{D:List (Int×Int)},(∀d∈D,d.2<=16)->muD D<=17*D.length
 | [],_=>by simp [muD]
 | d :: D,h=>by
  have h1:=h d (by simp);have h2:=br6 (D:=D) (fun x hx=>h x (by simp [hx]))
  simp only [muD,List.map_cons,List.sum_cons,List.length_cons] at h2 ⊢;omega
theorem cx.lenD {R:jh}{K:a_}{D:List (Int×Int)}(h:cx R K D):D.length<=1024:=by
 have:=zt (fun b:Int=>b.toNat) 1024 (D.map Prod.fst) h.dn (fun a ha b hb e=>by
  obtain ⟨l,hl,rfl⟩:=List.mem_map.1 ha;obtain ⟨l',hl',rfl⟩:=List.mem_map.1 hb;have:=h.dm l hl;have:=h.dm l' hl';try dsimp only at e
  omega) (fun a ha=>by
  obtain ⟨l,hl,rfl⟩:=List.mem_map.1 ha;have:=h.dm l hl;try dsimp only
  omega)
 simpa using this
def F0:Nat:=400000
theorem b59:F0=400000:=rfl
theorem Ag.mu_le {S:RS}{S':KS}(h:Ag S S'):mu S<=F0:=by
 have h1:=h.core.len;have h2:=h.core.lenD;have h3:=br6 (D:=S.D) (fun d hd=>(h.core.dm d hd).2.2.2.1)
 rw [b59];unfold mu;omega
attribute [irreducible] F0
theorem sh {σ:Type}{step:σ->σ}{done:σ->Bool}:∀(n:Nat) (S:σ) (bs:List Bool),qi step done n S->(ak step done n S bs).2.2=true->done (ak step done n S bs).1=true
 | 0,S,bs,h,_=>h
 | n+1,S,bs,h,h2=>by
  unfold ak at h2 ⊢;by_cases hd:done S=true
  ·rw [if_pos hd];exact hd
  ·rw [if_neg hd] at h2 ⊢;have h':=h.resolve_left hd;cases bs with
   | nil=>exact sh n _ [] h' h2
   | cons b r=>
    cases b with
    | true=>simp at h2
    | false=>exact sh n _ r h' h2
theorem js {σ:Type}{step:σ->σ}{done:σ->Bool}:∀(n:Nat) (S:σ),(ak step done n S []).2=([],true)
 | 0,_=>rfl
 | n+1,S=>by
  unfold ak;split
  ·rfl
  ·exact js n _
theorem sk {S:RS}:eh S=true ↔ S.D=[]:=by unfold eh;simp
theorem ag7:∀(n:Nat) {S:RS} {S':KS} (bs:List Bool),Ag S S'->(ak em eh n S bs).1.R.L.length<=S.R.L.length
 | 0,_,_,_,_=>Nat.le_refl _
 | n+1,S,S',bs,h=>by
  unfold ak;by_cases hd:eh S=true
  ·rw [if_pos hd];exact Nat.le_refl _
  ·rw [if_neg hd];have h1:=(ag9 h (by simpa using hd)).2;cases bs with
   | nil=>exact Nat.le_trans (ag7 n [] h.step) h1
   | cons b r=>
    cases b with
    | true=>exact h1
    | false=>exact Nat.le_trans (ag7 n r h.step) h1
def dk:List Bool->Bool×List Bool
 | []=>(false,[])
 | b :: r=>(b,r)
def takeB (S:RS)(p:Nat)(e:bo)(bs:List Bool):Int×RS×List Bool:=
 if (dk bs).1 then (8,jg S p e,(dk bs).2)
 else (if (ak em eh F0 (jg S p e) (dk bs).2).2.2 then 0 else 8,(ak em eh F0 (jg S p e) (dk bs).2).1,(ak em eh F0 (jg S p e) (dk bs).2).2.1)
noncomputable def co (S:KS)(s:Slot)(bs:List Bool):Int×KS×List Bool:=
 if (dk bs).1 then (8,d_ S s,(dk bs).2)
 else (if (ak az bf F0 (d_ S s) (dk bs).2).2.2 then 0 else 8,(ak az bf F0 (d_ S s) (dk bs).2).1,(ak az bf F0 (d_ S s) (dk bs).2).2.1)
theorem Ag.takeB {S:RS}{S':KS}(h:Ag S S'){p:Nat}(hp:p<S.R.L.length)(bs:List Bool):
 (takeB S p S.R.L[p] bs).1=(co S' S.R.L[p].slot bs).1/\(takeB S p S.R.L[p] bs).2.2=(co S' S.R.L[p].slot bs).2.2/\Ag (takeB S p S.R.L[p] bs).2.1 (co S' S.R.L[p].slot bs).2.1/\
 (takeB S p S.R.L[p] bs).2.1.R.L.length<S.R.L.length/\(bs=[]->(takeB S p S.R.L[p] bs).1=0/\(takeB S p S.R.L[p] bs).2.2=[]/\(takeB S p S.R.L[p] bs).2.1.D=[]):=by
 have h1:=h.take hp;have h2:=(aw6 h hp).2;unfold Proofs.YtdpjgflemddekaaDoor.takeB co;by_cases hb:(dk bs).1=true
 ·rw [if_pos hb,if_pos hb];refine ⟨rfl,rfl,h1,by simp only;omega,?_⟩;rintro rfl;simp [dk] at hb
 ·rw [if_neg hb,if_neg hb];obtain ⟨g1,g2⟩:=Ag.work F0 (dk bs).2 h1;have g3:=ag7 F0 (dk bs).2 h1;refine ⟨by simp only [g1],by simp only [g1],g2,by simp only;omega,?_⟩;rintro rfl;have g4:(ak em eh F0 (jg S p S.R.L[p]) (dk []).2).2=([],true):=js _ _;simp only [g4];refine ⟨rfl,trivial,sk.1 (sh F0 _ _ (Ag.ends F0 h1 h1.mu_le).1 (by rw [g4]))⟩
def rm (L:List bo)(up:Int)(p:Nat):Nat->Nat
 | 0=>p+1
 | k+1=>match L[p+1+k]? with
  | some e=>if e.up=up+1 then p+1+k else rm L up p k
  | none=>rm L up p k
def m7 (L:List bo)(p:Nat)(up:Int):Nat:=rm L up p (og L p up-(p+1))
def ip (K:a_)(s:Slot):Slot:=match K.st s with
 | some x=>x.kids.getLast?.getD ⟨0,0⟩
 | none=>⟨0,0⟩
theorem Fo.flat_roots:∀(F:Fo) (d:Int),(F.flat d).filter (fun x=>decide (x.2=d))=F.roots.map fun s=>(s,d)
 | .nil,_=>rfl
 | .node s kids next,d=>by
  simp only [Fo.flat,Fo.roots,List.map_cons];rw [List.filter_cons_of_pos (by simp),List.filter_append,flat_roots next d];have:(kids.flat (d+1)).filter (fun x=>decide (x.2=d))=[]:=by
   rw [List.filter_eq_nil_iff];intro x hx;have:=Fo.flat_ge kids (d+1) x hx;simp;omega
  rw [this,List.nil_append]
theorem Fo.In.split2 {st:Slot->Option ly}:∀{F:Fo} {d:Int} {p:Slot},F.In st p->∀s∈F.slots,∃A B C u x,F.flat d=A++(s,u) :: (B++C)/\(∀y∈B,u<y.2)/\(∀y∈C.head?,y.2<=u)/\d<=u/\st s=some x/\(B=[] ↔ x.kids=[])/\
 B.filter (fun y=>decide (y.2=u+1))=x.kids.map fun k=>(k,u+1)
 | .nil,_,_,_,s,h=>by simp [Fo.slots] at h
 | .node s0 kids next,d,p,⟨⟨x,h1,h2,h3⟩,h4,h5⟩,s,h=>by
  simp only [Fo.slots,List.mem_cons,List.mem_append] at h;rcases h with rfl | h | h
  ·refine ⟨[],kids.flat (d+1),next.flat d,d,x,by simp [Fo.flat],fun y hy=>by have:=Fo.flat_ge kids (d+1) y hy;omega,fun y hy=>by rw [Fo.flat_head next d y hy];omega,Int.le_refl _,h1,?_,?_⟩
   ·rw [h3];cases kids with
    | nil=>simp [Fo.flat,Fo.roots]
    | node _ _ _=>simp [Fo.flat,Fo.roots]
   ·rw [h3];exact Fo.flat_roots kids (d+1)
  ·obtain ⟨A,B,C,u,y,e1,hB,hC,hd,e2,e3⟩:=h4.split2 (d:=d+1) s h;refine ⟨(s0,d) :: A,B,C++next.flat d,u,y,by simp [Fo.flat,e1],hB,?_,by omega,e2,e3⟩;intro z hz;cases C with
   | nil=>simp at hz;have:=Fo.flat_head next d z hz;omega
   | cons c C=>exact hC z (by simpa using hz)
  ·obtain ⟨A,B,C,u,y,e1,hB,hC,hd,e2,e3⟩:=h5.split2 (d:=d) s h;exact ⟨(s0,d) :: (kids.flat (d+1)++A),B,C,u,y,by simp [Fo.flat,e1],hB,hC,hd,e2,e3⟩
theorem ad7 {L:List bo}{A B C:List (Slot×Int)}{s:Slot}{u:Int}(h:L.map bo.key=A++(s,u) :: (B++C)):∀(k:Nat),k<=B.length->∀y,((B.take k).filter (fun y=>decide (y.2=u+1))).getLast?=some y->
 ∃e,L[rm L u A.length k]?=some e/\e.key=y/\A.length<rm L u A.length k/\rm L u A.length k<A.length+1+k
 | 0,_,y,hy=>by simp at hy
 | k+1,hk,y,hy=>by
  have hlen:L.length=A.length+1+B.length+C.length:=by have:=congrArg List.length h;simp at this;omega
  have hkL:A.length+1+k<L.length:=by omega
  have hget:L[A.length+1+k].key=B[k]:=by
   have h1:(L.map bo.key)[A.length+1+k]?=some L[A.length+1+k].key:=by simp [hkL]
   rw [h,show A++(s,u) :: (B++C)=(A++[(s,u)])++(B++C) by simp,List.getElem?_append_right (by simp)] at h1;have e:A.length+1+k-(A++[(s,u)]).length=k:=by simp
   rw [e,List.getElem?_append_left (by omega),List.getElem?_eq_getElem (by omega)] at h1;exact (Option.some.inj h1).symm
  rw [List.take_succ_eq_append_getElem (by omega),List.filter_append] at hy;have hto:rm L u A.length (k+1)=if L[A.length+1+k].up=u+1 then A.length+1+k else rm L u A.length k:=by
   rw [rm,List.getElem?_eq_getElem hkL]
  rw [hto];by_cases hu:L[A.length+1+k].up=u+1
  ·simp only [if_pos hu];have hb:B[k].2=u+1:=by rw [<- hget];exact hu
   rw [List.filter_cons_of_pos (by simpa using hb)] at hy;simp at hy;exact ⟨_,List.getElem?_eq_getElem hkL,by rw [hget,hy],by omega,by omega⟩
  ·simp only [if_neg hu];have hb:¬B[k].2=u+1:=by rw [<- hget];exact hu
   rw [List.filter_cons_of_neg (by simpa using hb)] at hy;simp only [List.filter_nil,List.append_nil] at hy;obtain ⟨e,g0,g1,g2,g3⟩:=ad7 h k (by omega) y hy;exact ⟨e,g0,g1,g2,by omega⟩
theorem x_.kidsOf {R:jh}{K:a_}(h:x_ R K)(i:Nat)(hi:i<R.L.length):
 (og R.L i R.L[i].up=i+1 ↔ bl K R.L[i].slot=false)/\(bl K R.L[i].slot=true->∃hj:m7 R.L i R.L[i].up<R.L.length,(R.L[m7 R.L i R.L[i].up]).slot=ip K R.L[i].slot/\i<m7 R.L i R.L[i].up):=by
 obtain ⟨F,hF⟩:=h.tree;have hs:R.L[i].slot∈F.slots:=by rw [hF.slots];exact List.mem_map.2 ⟨_,List.getElem_mem hi,rfl⟩
 obtain ⟨A,B,C,u,x,e1,hB,hC,_,e2,e3,e4⟩:=hF.stands.split2 (d:=0) _ hs;rw [<- hF.flat] at e1;obtain ⟨r1,r2⟩:=aa2 hF.nd e1 hi rfl;have r3:=a83 e1 hB hC;rw [r1,<- r2] at r3;have hk:bl K R.L[i].slot=decide (0<x.kids.length):=by unfold bl;rw [e2]
 constructor
 ·rw [hk,r3];simp only [decide_eq_false_iff_not];constructor
  ·intro g;have:B=[]:=List.length_eq_zero_iff.1 (by omega);rw [e3.1 this];simp
  ·intro g;have:x.kids=[]:=List.length_eq_zero_iff.1 (by omega);rw [e3.2 this];rfl
 ·intro g;rw [hk] at g;simp only [decide_eq_true_eq] at g;have hne:x.kids≠[]:=fun e=>by rw [e] at g;simp at g
  obtain ⟨l,hl⟩:∃l,x.kids.getLast?=some l:=⟨_,List.getLast?_eq_some_getLast hne⟩;have hlast:((B.take B.length).filter (fun y=>decide (y.2=u+1))).getLast?=some (l,u+1):=by
   rw [List.take_length,e4,List.getLast?_map,hl];rfl
  obtain ⟨e,g0,g1,g2,_⟩:=ad7 e1 B.length (Nat.le_refl _) _ hlast;have e5:m7 R.L i R.L[i].up=rm R.L u A.length B.length:=by
   unfold m7;rw [r3,r2,r1];congr 1;omega
  rw [<- e5] at g0 g2;obtain ⟨hj,g3⟩:=List.getElem?_eq_some_iff.1 g0;refine ⟨hj,?_,by omega⟩;rw [g3];have:e.slot=l:=congrArg Prod.fst g1;rw [this];unfold ip;rw [e2];simp only;rw [hl];rfl
def bd:Nat->RS->Int->Int->List Bool->Int×RS×List Bool
 | 0,S,_,_,bs=>(0,S,bs)
 | k+1,S,n,i,bs=>match S.R.L.findIdx? (fh n i) with
  | none=>(0,S,bs)
  | some p=>match S.R.L[p]? with
   | none=>(0,S,bs)
   | some e=>if og S.R.L p e.up=p+1 then (0,S,bs) else
    match S.R.L[m7 S.R.L p e.up]? with
    | none=>(0,S,bs)
    | some e'=>if (takeB S (m7 S.R.L p e.up) e' bs).1=0 then bd k (takeB S (m7 S.R.L p e.up) e' bs).2.1 n i (takeB S (m7 S.R.L p e.up) e' bs).2.2 else takeB S (m7 S.R.L p e.up) e' bs
noncomputable def bw:Nat->KS->Slot->List Bool->Int×KS×List Bool
 | 0,S,_,bs=>(0,S,bs)
 | k+1,S,s,bs=>if bl S.K s then
  if (co S (ip S.K s) bs).1=0 then bw k (co S (ip S.K s) bs).2.1 s (co S (ip S.K s) bs).2.2 else co S (ip S.K s) bs
  else (0,S,bs)
theorem Ag.revoke:∀(k:Nat) {S:RS} {S':KS} (n i:Int) (bs:List Bool),Ag S S'->0<=i->(bd k S n i bs).1=(bw k S' ⟨n,i⟩ bs).1/\Ag (bd k S n i bs).2.1 (bw k S' ⟨n,i⟩ bs).2.1/\(bs=[]->S.D=[]->(bd k S n i bs).2.1.D=[])
 | 0,_,_,_,_,_,h,_=>⟨rfl,h,fun _ h=>h⟩
 | k+1,S,S',n,i,bs,h,hi0=>by
  unfold bd bw;have hC:=h.core;rcases hC.rel.idx n i with ⟨e1,e2⟩ | ⟨p,hp,e1,e2,c,e3,e4⟩
  ·rw [e1];have hk:bl S'.K ⟨n,i⟩=false:=by
    unfold bl;rw [hC.rel.treeOk.empty _ e2 hi0]
   rw [hk];exact ⟨rfl,h,fun _ h=>h⟩
  ·rw [e1];simp only [List.getElem?_eq_getElem hp];obtain ⟨k1,k2⟩:=hC.rel.kidsOf p hp;rw [e2] at k1 k2;by_cases hk:bl S'.K ⟨n,i⟩=true
   ·rw [if_pos hk,if_neg (fun e=>by rw [k1.1 e] at hk;cases hk)];obtain ⟨hj,k3,_⟩:=k2 hk;simp only [List.getElem?_eq_getElem hj];obtain ⟨g1,g2,g3,g4,g5⟩:=h.takeB hj bs;rw [k3] at g1 g2 g3;rw [g1,g2];by_cases he:(co S' (ip S'.K ⟨n,i⟩) bs).1=0
    ·rw [if_pos he,if_pos he];obtain ⟨q1,q2,q3⟩:=Ag.revoke k n i (co S' (ip S'.K ⟨n,i⟩) bs).2.2 g3 hi0;refine ⟨q1,q2,fun hb _=>?_⟩
     obtain ⟨p1,p2,p3⟩:=g5 hb;exact q3 (by rw [<- g2];exact p2) p3
    ·rw [if_neg he,if_neg he];exact ⟨g1,g3,fun hb _=>(g5 hb).2.2⟩
   ·rw [if_neg hk,if_pos (k1.2 (by simpa using hk))];exact ⟨rfl,h,fun _ h=>h⟩
def oy (ws:Nat->Int)(a n:Int):Nat->Int:=fun i=>if a<=(i:Int)/\(i:Int)<a+n then 0 else ws i
def ax (m:Int)(bs:List Bool):Int×List Bool×Bool:=ak (fun m=>max (m-16) 0) (fun m=>decide (m<=0)) 100 m bs
theorem i_:∀(n:Nat) (m:Int) (bs:List Bool),0<=m->0<=(ak (fun m=>max (m-16) 0) (fun m=>decide (m<=0)) n m bs).1/\(ak (fun m=>max (m-16) 0) (fun m=>decide (m<=0)) n m bs).1<=m
 | 0,m,bs,h=>⟨h,Int.le_refl _⟩
 | n+1,m,bs,h=>by
  unfold ak;by_cases hd:decide (m<=0)=true
  ·rw [if_pos hd];exact ⟨h,Int.le_refl _⟩
  ·rw [if_neg hd];have h1:0<=max (m-16) 0:=by omega
   have h2:max (m-16) 0<=m:=by omega
   cases bs with
   | nil=>have:=i_ n (max (m-16) 0) [] h1;exact ⟨this.1,Int.le_trans this.2 h2⟩
   | cons b r=>
    cases b with
    | true=>exact ⟨h1,h2⟩
    | false=>have:=i_ n (max (m-16) 0) r h1;exact ⟨this.1,Int.le_trans this.2 h2⟩
def xg (S:RS)(root:Int)(c:Cl)(p:Nat)(e:bo)(n ix:Int):Int×RS:=((xz S.R root c p e n ix).1,{S with R:=(xz S.R root c p e n ix).2})
def fc (S:RS)(p:Nat)(e:bo)(m:Int):RS:=⟨{S.R with L:=S.R.L.set p {e with mark:=m}},S.D,oy S.ws (e.base+m) (e.mark-m),S.q⟩
def ey (S:RS)(root:Int)(c:Cl)(p:Nat)(e:bo)(bs:List Bool):Int×RS:=
 if e.ty≠1 then (3,S)
 else if ad_ c=false then (7,S)
 else match cp S.R.L S.R.N root c.to with
  | none=>(2,S)
  | some (n,ix)=>
   if dw S.R.N n<ix+c.count then (2,S)
   else if k_ S.R.L n ix c.count.toNat then (4,S)
   else if og S.R.L p e.up=p+1 then
    if (ax e.mark bs).2.2 then xg (fc S p e (ax e.mark bs).1) root c p {e with mark:=(ax e.mark bs).1} n ix
    else (8,fc S p e (ax e.mark bs).1)
   else xg S root c p e n ix
def dg (K:a_)(f:Slot)(b n m m':Int):a_:={K with held:=upd K.held f (some (.untyped b n m')),ws:=oy K.ws (b+m') (m-m')}
def nf (S:KS)(f s:Slot)(ty bits root b n m:Int)(cnt:Nat):Int×KS:=((jd S.K f s ty bits root b n m cnt).1,{S with K:=(jd S.K f s ty bits root b n m cnt).2})
def gg (S:KS)(root:Int)(c:Cl)(bs:List Bool):Option (Int×KS):=
 match ay S.K root c.at_ with
 | none=>none
 | some f=>match S.K.held f with
  | some (.untyped b n m)=>
   if jf c.ty c.bits=true/\1<=c.count/\c.count<=8 then
    match af6 S.K root c.to c.count.toNat with
    | none=>none
    | some (_,false)=>some (4,S)
    | some (s,true)=>if bl S.K f then some (nf S f s c.ty c.bits root b n m c.count.toNat)
     else if (ax m bs).2.2 then some (nf {S with K:=dg S.K f b n m (ax m bs).1} f s c.ty c.bits root b n (ax m bs).1 c.count.toNat)
     else some (8,{S with K:=dg S.K f b n m (ax m bs).1})
   else some (7,S)
  | _=>some (3,S)
def sn (S:KS):Option (Int×KS)->Int×KS
 | some y=>y
 | none=>(2,S)
theorem at0 {ws ws':Nat->Int}(h:∀i,i<1024->ws i=ws' i)(a n:Int):∀i,i<1024->oy ws a n i=oy ws' a n i:=by
 intro i hi;unfold oy;rw [h i hi]
theorem be4 {K K':a_}{f:Slot}{b n m m':Int}(hf:K.held f=some (.untyped b n m))(hh:K'.held=upd K.held f (some (.untyped b n m')))(s:Slot):j9 K' s=j9 K s:=by
 unfold j9;rw [hh];by_cases e:s=f
 ·rw [e,ai,hf]
 ·rw [af _ _ e]
theorem be2 {K K':a_}{f:Slot}{b n m m':Int}(hf:K.held f=some (.untyped b n m))(root:Int)(l:List Int)(hh:K'.held=upd K.held f (some (.untyped b n m')):=by rfl)(hn:K'.nodes=K.nodes:=by rfl):ay K' root l=ay K root l:=by
 unfold ay;have hok:∀nd x,okK K' nd x=okK K nd x:=fun nd x=>by unfold okK bz;rw [hn]
 split
 ·rfl
 ·have:∀(l:List Int) (nd:Int),goK K' nd l=goK K nd l:=by
   intro l;induction l with
   | nil=>intro nd;rfl
   | cons x l ih=>
    intro nd;cases l with
    | nil=>simp only [goK,hok]
    | cons y r=>
     simp only [goK,hok,be4 hf hh];split
     ·cases j9 K ⟨nd,x⟩ with
      | none=>rfl
      | some nd'=>exact ih nd'
     ·rfl
  exact this l root
theorem ah5 (K:a_)(f s:Slot)(ty bits root st:Int):∀i:Nat,(cf K f s ty bits root st i).ws=K.ws
 | 0=>rfl
 | i+1=>by
  rw [<- ah5 K f s ty bits root st i];simp only [cf];generalize gn ty (st+i*pw bits.toNat) bits=c;cases c<;>rfl
theorem ap_ (K:a_)(f s:Slot)(ty bits root b n m:Int)(cnt:Nat):(jd K f s ty bits root b n m cnt).2.ws=K.ws:=by
 unfold jd;split
 ·rfl
 ·exact ah5 _ _ _ _ _ _ _ _
theorem ai3:∀(n:Nat) (m:Int),m<=16*n->qi (fun m=>max (m-16) 0) (fun m=>decide (m<=0)) n m
 | 0,m,h=>by simp only [qi];simpa using h
 | n+1,m,h=>by
  by_cases h0:m<=0
  ·exact .inl (by simpa using h0)
  ·refine .inr (ai3 n _ ?_);show max (m-16) 0<=_;push_cast at h;omega
theorem Ag.retype {S:RS}{S':KS}(h:Ag S S')(hD:S.D=[]){p:Nat}(hp:p<S.R.L.length)(root:Int)(c:Cl)(bs:List Bool)(hf:ay S'.K root c.at_=some S.R.L[p].slot):
 (ey S root c p S.R.L[p] bs).1=(sn S' (gg S' root c bs)).1/\Ag (ey S root c p S.R.L[p] bs).2 (sn S' (gg S' root c bs)).2/\(ey S root c p S.R.L[p] bs).2.D=[]:=by
 obtain ⟨hC,hD',hws,hQ⟩:=h;obtain ⟨K,D⟩:=S';obtain ⟨R,D',ws,q0⟩:=S;simp only at hC hD hD' hws hQ hp hf ⊢;subst hD';subst hD;have hA:Ag ⟨R,[],ws,q0⟩ ⟨K,[]⟩:=⟨hC,rfl,hws,hQ⟩;obtain ⟨k,hk,ht⟩:=hC.rel.cap _ (List.getElem_mem hp);obtain ⟨t1,_⟩:=ai7 ht;unfold gg;simp only [hf,hk];by_cases hu:k.isU=true
 ·cases k with
  | untyped b n m=>
   simp only;have hty:¬R.L[p].ty≠1:=fun e=>e (t1.2 hu)
   have ht':=ht;simp only [KCap.told,bo.told,Prod.mk.injEq] at ht';obtain ⟨a1,rfl,rfl,a4,a5,rfl⟩:=ht';unfold ey;rw [if_neg hty];by_cases hob:ad_ c=true
   ·have hob':=(ab6 c).1 hob;rw [if_pos hob',if_neg (by simp [hob])];unfold af6;rw [hC.rel.find];cases hf2:cp R.L R.N root c.to with
    | none=>exact ⟨rfl,hA,rfl⟩
    | some q=>
     obtain ⟨nd,ix⟩:=q;simp only [Option.map_some,pt];obtain ⟨o1,o2⟩:=hC.found_ok hf2;have hcnt:((c.count.toNat:Nat):Int)=c.count:=by omega
     have hslots:dw R.N nd=bz K nd:=by unfold bz;rw [hC.rel.nodes]
     by_cases hroom:dw R.N nd<ix+c.count
     ·have hnok:okK K nd (ix+c.count.toNat-1)=false:=by
       unfold okK;rw [hcnt,<- hslots];have:¬ix+c.count-1<dw R.N nd:=by omega
       simp [this]
      rw [if_pos hroom,hnok];exact ⟨rfl,hA,rfl⟩
     ·have hok:okK K nd (ix+c.count.toNat-1)=true:=by
       unfold okK;rw [hcnt,<- hslots];have g1:ix+c.count-1<dw R.N nd:=by omega
       have g2:0<=ix+c.count-1:=by omega
       simp only [Bool.and_eq_true,decide_eq_true_eq];exact ⟨g2,g1⟩
      rw [if_neg hroom,hok,if_pos rfl,aj0 hC.rel];by_cases hfu:k_ R.L nd ix c.count.toNat=true
      ·rw [if_pos hfu];simp only [hfu,Bool.not_true];exact ⟨rfl,hA,trivial⟩
      ·have hfu':k_ R.L nd ix c.count.toNat=false:=by simpa using hfu
       rw [if_neg hfu];simp only [hfu',Bool.not_false];obtain ⟨kd1,_⟩:=hC.rel.kidsOf p hp;have hcap:=hC.cap _ _ hk;simp only [KCap.base,KCap.bits,KCap.mark] at hcap;by_cases hkid:bl K R.L[p].slot=true
       ·rw [if_neg (fun e=>by rw [kd1.1 e] at hkid;cases hkid),if_pos hkid];obtain ⟨g1,g2,g3⟩:=hC.carves hp root c _ hk rfl hob hf2 hroom hfu';refine ⟨g1,⟨g2,rfl,fun i hi=>?_,hQ.more g3⟩,rfl⟩
        show ws i=(jd K R.L[p].slot ⟨nd,ix⟩ c.ty c.bits root R.L[p].base R.L[p].bits R.L[p].mark c.count.toNat).2.ws i;rw [ap_];exact hws i hi
       ·rw [if_pos (kd1.2 (by simpa using hkid)),if_neg hkid];obtain ⟨m1,m2⟩:=i_ 100 R.L[p].mark bs hcap.2.2.2.2.1;generalize hrm:ax R.L[p].mark bs=y;have hrm':ak (fun m=>max (m-16) 0) (fun m=>decide (m<=0)) 100 R.L[p].mark bs=y:=hrm
        rw [hrm'] at m1 m2;have hC1:=hC.setMark hp hk (m':=y.1) (.inr (by simpa using hkid)) m1 (by omega);have hp1:p<(R.L.set p {R.L[p] with mark:=y.1}).length:=by simpa using hp
        have hg1:(R.L.set p {R.L[p] with mark:=y.1})[p]'hp1={R.L[p] with mark:=y.1}:=by simp
        have hC2:cx {R with L:=R.L.set p {R.L[p] with mark:=y.1}} (dg K R.L[p].slot R.L[p].base R.L[p].bits R.L[p].mark y.1) []:=
         ⟨⟨hC1.rel.cap,hC1.rel.emp,hC1.rel.tree,hC1.rel.nodes,hC1.rel.thr⟩,hC1.geo,hC1.inN,hC1.dm,hC1.dn,hC1.nod,hC1.cap,hC1.hno,hC1.thd,hC1.hth,hC1.que,hC1.hen,hC1.nd,hC1.td,hC1.nb,hC1.tb,hC1.rt,hC1.dap⟩
        have hQ1:w_ q0 (dg K R.L[p].slot R.L[p].base R.L[p].bits R.L[p].mark y.1):=hQ.same rfl (fun _ t e1 e2=>⟨t,e1,e2⟩);have hws1:∀i,i<1024->oy ws (R.L[p].base+y.1) (R.L[p].mark-y.1) i=oy K.ws (R.L[p].base+y.1) (R.L[p].mark-y.1) i:=at0 hws _ _;by_cases hok2:y.2.2=true
        ·rw [if_pos hok2,if_pos hok2];have hfe:cp (R.L.set p {R.L[p] with mark:=y.1}) R.N root c.to=some (nd,ix):=by
          have:=hC2.rel.find root c.to;have h2:=hC.rel.find root c.to;rw [hf2] at h2;have h3:ay (dg K R.L[p].slot R.L[p].base R.L[p].bits R.L[p].mark y.1) root c.to=ay K root c.to:=be2 hk root c.to;rw [h3,h2] at this;cases hq:cp (R.L.set p {R.L[p] with mark:=y.1}) R.N root c.to with
          | none=>rw [hq] at this;cases this
          | some q=>
           rw [hq] at this;simp only [Option.map_some,pt,Option.some.injEq,Slot.mk.injEq] at this;obtain ⟨q1,q2⟩:=q;simp only at this;rw [this.1,this.2]
         have hfu1:k_ (R.L.set p {R.L[p] with mark:=y.1}) nd ix c.count.toNat=false:=by
          have h1:=aj0 hC2.rel nd ix c.count.toNat;have h2:=aj0 hC.rel nd ix c.count.toNat;have h3:((cy ⟨nd,ix⟩ c.count.toNat).all fun t=>((dg K R.L[p].slot R.L[p].base R.L[p].bits R.L[p].mark y.1).held t).isNone)=((cy ⟨nd,ix⟩ c.count.toNat).all fun t=>(K.held t).isNone):=by
           congr 1;funext t;show (upd K.held R.L[p].slot _ t).isNone=_;by_cases e:t=R.L[p].slot
           ·rw [e,ai,hk];rfl
           ·rw [af _ _ e]
          rw [h3,h2,hfu'] at h1;simpa using h1.symm
         have hc3:=hC2.carves (p:=p) hp1 root c y.1 (by rw [hg1];exact ai _ _ _) (by rw [hg1]) hob (l:=c.to) hfe hroom hfu1;rw [hg1] at hc3;obtain ⟨g1,g2,g3⟩:=hc3;refine ⟨g1,⟨g2,rfl,fun i hi=>?_,hQ1.more g3⟩,rfl⟩
         show oy ws (R.L[p].base+y.1) (R.L[p].mark-y.1) i=(jd (dg K R.L[p].slot R.L[p].base R.L[p].bits R.L[p].mark y.1) R.L[p].slot ⟨nd,ix⟩ c.ty c.bits root R.L[p].base R.L[p].bits y.1 c.count.toNat).2.ws i;rw [ap_];exact hws1 i hi
        ·rw [if_neg hok2,if_neg hok2];exact ⟨rfl,⟨hC2,rfl,hws1,hQ1⟩,rfl⟩
   ·have hob':¬(jf c.ty c.bits=true/\1<=c.count/\c.count<=8):=fun e=>hob ((ab6 c).2 e)
    rw [if_neg hob',if_pos (by simpa using hob)];exact ⟨rfl,hA,rfl⟩
  | _=>simp [KCap.isU] at hu
 ·have hL:ey ⟨R,[],ws,q0⟩ root c p R.L[p] bs=(3,⟨R,[],ws,q0⟩):=by unfold ey;rw [if_pos (fun e=>hu (t1.1 e))]
  rw [hL];cases k with
  | untyped b n m=>simp [KCap.isU] at hu
  | _=>exact ⟨rfl,hA,rfl⟩
def gq (K:a_)(root:Int)(c:Cl):Option (Int×a_):=
 if c.kind=2 then j5 K root c else if c.kind=3 then fx K root c else jt K root c
def F1:Nat:=20000
theorem bf_:F1=20000:=rfl
attribute [irreducible] F1
def dy (S:RS)(b:Int)(c:Cl)(bs:List Bool):Int×RS:=
 match S.R.T.find? (ao b) with
 | none=>(1,S)
 | some t=>
  if t.state≠1 then (1,S)
  else if c.kind<1\/11<c.kind then (7,S)
  else if c.kind=1\/c.kind=5\/c.kind=6 then
   let y:=ak em eh F0 S bs
   if y.2.2=false then (8,y.1)
   else match cp y.1.R.L y.1.R.N (o6 y.1.R.N t.root) c.at_ with
    | none=>(2,y.1)
    | some (n,ix)=>match y.1.R.L.findIdx? (fh n ix) with
     | none=>if c.kind=1 then (3,y.1) else (4,y.1)
     | some p=>match y.1.R.L[p]? with
      | none=>(0,y.1)
      | some e=>if c.kind=1 then ey y.1 (o6 y.1.R.N t.root) c p e y.2.1
       else if c.kind=5 then ((takeB y.1 p e y.2.1).1,(takeB y.1 p e y.2.1).2.1)
       else ((bd F1 y.1 n ix y.2.1).1,(bd F1 y.1 n ix y.2.1).2.1)
  else match cp S.R.L S.R.N t.root c.at_ with
   | none=>(2,S)
   | some (n,ix)=>match S.R.L.findIdx? (fh n ix) with
    | none=>(4,S)
    | some p=>match S.R.L[p]? with
     | none=>(0,S)
     | some e=>((fw S.R t.root c p e).1,{S with R:={S.R with L:=(fw S.R t.root c p e).2}})
noncomputable def ls (S:KS)(th:Int)(c:Cl)(bs:List Bool):Int×KS:=
 match S.K.thr th with
 | none=>(1,S)
 | some t=>
  if t.state≠1 then (1,S)
  else if c.kind<1\/11<c.kind then (7,S)
  else if c.kind=1\/c.kind=5\/c.kind=6 then
   let y:=ak az bf F0 S bs
   if y.2.2=false then (8,y.1)
   else if c.kind=1 then sn y.1 (gg y.1 t.root c y.2.1)
   else match ay y.1.K t.root c.at_ with
    | none=>(2,y.1)
    | some s=>if (y.1.K.held s).isNone then (4,y.1)
     else if c.kind=5 then ((co y.1 s y.2.1).1,(co y.1 s y.2.1).2.1)
     else ((bw F1 y.1 s y.2.1).1,(bw F1 y.1 s y.2.1).2.1)
  else ((cz S.K (gq S.K t.root c)).1,{S with K:=(cz S.K (gq S.K t.root c)).2})
def bu_ (K K':a_):Prop:=K'.ws=K.ws/\K'.thr=K.thr/\K'.qs=K.qs
theorem zw (K:a_)(root:Int)(l:List Int)(k:KCap)(p:Slot):bu_ K (cz K (bp K root l k p)).2:=by
 unfold bp;split
 ·exact ⟨rfl,rfl,rfl⟩
 ·split<;>exact ⟨rfl,rfl,rfl⟩
theorem aq8 (K:a_)(root:Int)(c:Cl):bu_ K (cz K (gq K root c)).2:=by
 unfold gq;split
 ·unfold j5;split
  ·exact ⟨rfl,rfl,rfl⟩
  ·split
   ·exact ⟨rfl,rfl,rfl⟩
   ·split
    ·exact ⟨rfl,rfl,rfl⟩
    ·split
     ·exact zw _ _ _ _ _
     ·exact ⟨rfl,rfl,rfl⟩
 ·split
  ·unfold fx;split
   ·exact ⟨rfl,rfl,rfl⟩
   ·split
    ·exact ⟨rfl,rfl,rfl⟩
    ·split
     ·split
      ·exact ⟨rfl,rfl,rfl⟩
      ·split
       ·exact zw _ _ _ _ _
       ·exact ⟨rfl,rfl,rfl⟩
     ·exact ⟨rfl,rfl,rfl⟩
  ·unfold jt;split
   ·exact ⟨rfl,rfl,rfl⟩
   ·split
    ·exact ⟨rfl,rfl,rfl⟩
    ·split
     ·exact ⟨rfl,rfl,rfl⟩
     ·split<;>exact ⟨rfl,rfl,rfl⟩
theorem bm6 (K:a_)(root:Int)(c:Cl):(cz K (gq K root c)).2.ws=K.ws:=(aq8 K root c).1
theorem cx.small {R:jh}{K:a_}{D:List (Int×Int)}(h:cx R K D)(root:Int)(c:Cl)(hk:c.kind=2\/c.kind=3\/c.kind=4):
 ∀y,y=(match cp R.L R.N root c.at_ with
  | none=>((2:Int),R)
  | some (n,ix)=>match R.L.findIdx? (fh n ix) with
   | none=>(4,R)
   | some p=>match R.L[p]? with
    | none=>(0,R)
    | some e=>((fw R root c p e).1,{R with L:=(fw R root c p e).2}))->
 y.1=(cz K (gq K root c)).1/\cx y.2 (cz K (gq K root c)).2 D:=by
 intro y hy;have hA:∀(f:Option (Int×a_)),(ay K root c.at_=none->f=none)->
  (∀n i,cp R.L R.N root c.at_=some (n,i)->K.held ⟨n,i⟩=none->f=some (4,K))->
  (∀p (hp:p<R.L.length) n i,cp R.L R.N root c.at_=some (n,i)->R.L[p].slot=⟨n,i⟩->∀k,K.held R.L[p].slot=some k->k.told=R.L[p].told->
    (fw R root c p R.L[p]).1=(cz K f).1/\cx {R with L:=(fw R root c p R.L[p]).2} (cz K f).2 D)->
  y.1=(cz K f).1/\cx y.2 (cz K f).2 D:=by
  intro f f1 f2 f3;subst hy;cases hfi:cp R.L R.N root c.at_ with
  | none=>
   rw [f1 (by rw [h.rel.find,hfi];rfl)];exact ⟨rfl,h⟩
  | some q=>
   obtain ⟨n,i⟩:=q;simp only;rcases h.rel.idx n i with ⟨e1,e2⟩ | ⟨p,hp,e1,e2,k,e3,e4⟩
   ·rw [e1,f2 n i hfi e2];exact ⟨rfl,h⟩
   ·rw [e1];simp only [List.getElem?_eq_getElem hp];rw [<- e2] at e3;exact f3 p hp n i hfi e2 k e3 e4
 have hfk:∀n i,cp R.L R.N root c.at_=some (n,i)->ay K root c.at_=some ⟨n,i⟩:=fun n i e=>by rw [h.rel.find,e];rfl
 unfold gq;by_cases h2:c.kind=2
 ·simp only [if_pos h2];refine hA (j5 K root c) ?_ ?_ ?_
  ·intro e;unfold j5;rw [e]
  ·intro n i e e2;unfold j5;rw [hfk n i e];simp only [e2]
  ·intro p hp n i e e2 k e3 e4;have:j5 K root c=(if k.isU then some (3,K) else if 0<=c.rights/\c.rights<=7 then bp K root c.to (fi k c.rights) R.L[p].slot else some (7,K)):=by
    unfold j5;rw [hfk n i e];rw [e2] at e3;simp only [e3,e2]
   rw [this];exact h.copy hp root c k e3 e4 h2
 ·simp only [if_neg h2];by_cases h3:c.kind=3
  ·simp only [if_pos h3];refine hA (fx K root c) ?_ ?_ ?_
   ·intro e;unfold fx;rw [e]
   ·intro n i e e2;unfold fx;rw [hfk n i e];simp only [e2]
   ·intro p hp n i e e2 k e3 e4;have:fx K root c=al8 K root c R.L[p].slot k:=by
     unfold fx;rw [hfk n i e];rw [e2] at e3;simp only [e3,e2];rfl
    rw [this];exact h.mint hp root c k e3 e4 h3
  ·simp only [if_neg h3];refine hA (jt K root c) ?_ ?_ ?_
   ·intro e;unfold jt;rw [e]
   ·intro n i e e2;unfold jt;rw [hfk n i e];simp only [e2]
   ·intro p hp n i e e2 k e3 e4;have:jt K root c=(match ay K root c.to with
     | none=>none
     | some t=>if (K.held t).isSome then some (4,K) else some (0,K.move R.L[p].slot t k)):=by
     unfold jt;rw [hfk n i e];rw [e2] at e3;simp only [e3,e2];cases ay K root c.to<;>rfl
    rw [this];exact h.moves hp root c k e3 (by omega)
theorem ai1 {S:RS}{S':KS}(h:Ag S S')(th:Int)(c:Cl)(bs:List Bool)(hk:c.kind<=6\/11<c.kind):
 (dy S th c bs).1=(ls S' th c bs).1/\Ag (dy S th c bs).2 (ls S' th c bs).2/\(bs=[]->S.D=[]->(dy S th c bs).2.D=[]):=by
 unfold dy ls;rw [h.core.rel.thr];cases hf:S.R.T.find? (ao th) with
 | none=>exact ⟨rfl,h,fun _ h=>h⟩
 | some t=>
  simp only [Option.map_some,gh.thd];by_cases hs:t.state≠1
  ·rw [if_pos hs,if_pos hs];exact ⟨rfl,h,fun _ h=>h⟩
  ·rw [if_neg hs,if_neg hs];by_cases hkk:c.kind<1\/11<c.kind
   ·rw [if_pos hkk,if_pos hkk];exact ⟨rfl,h,fun _ h=>h⟩
   ·rw [if_neg hkk,if_neg hkk];by_cases hw:c.kind=1\/c.kind=5\/c.kind=6
    ·rw [if_pos hw,if_pos hw];obtain ⟨w1,w2⟩:=Ag.work F0 bs h;have wd:=sh F0 S bs (Ag.ends F0 h h.mu_le).1;have wn:bs=[]->(ak em eh F0 S bs).2=([],true):=by rintro rfl;exact js _ _
     generalize hy:ak em eh F0 S bs=y at w1 w2 wd wn ⊢;generalize hy':ak az bf F0 S' bs=y' at w1 w2 ⊢;obtain ⟨y1,yb,yo⟩:=y;obtain ⟨y1',yb',yo'⟩:=y';simp only [Prod.mk.injEq] at w1 w2 wd wn ⊢;obtain ⟨rfl,rfl⟩:=w1;cases hyo:yo with
     | false=>exact ⟨rfl,w2,fun hb _=>by have:=(wn hb).2;rw [hyo] at this;cases this⟩
     | true=>
      have hDn:y1.D=[]:=sk.1 (wd hyo);simp only [Bool.true_eq_false,if_false];rw [w2.core.still];have hC:=w2.core;have hfind:=hC.rel.find t.root c.at_;by_cases h1:c.kind=1
      ·simp only [if_pos h1];cases hfi:cp y1.R.L y1.R.N t.root c.at_ with
       | none=>
        rw [hfi] at hfind;unfold gg;rw [hfind];exact ⟨rfl,w2,fun _ _=>hDn⟩
       | some q=>
        obtain ⟨n,i⟩:=q;rw [hfi] at hfind;simp only [Option.map_some,pt] at hfind ⊢;rcases hC.rel.idx n i with ⟨e1,e2⟩ | ⟨p,hp,e1,e2,k,e3,e4⟩
        ·rw [e1];unfold gg;rw [hfind];simp only [e2];exact ⟨rfl,w2,fun _ _=>hDn⟩
        ·rw [e1];simp only [List.getElem?_eq_getElem hp,a71 hfi];obtain ⟨g1,g2,g3⟩:=w2.retype hDn hp t.root c yb (by rw [hfind,e2]);exact ⟨g1,g2,fun _ _=>g3⟩
      ·simp only [if_neg h1];cases hfi:cp y1.R.L y1.R.N t.root c.at_ with
       | none=>
        rw [hfi] at hfind;rw [hfind];exact ⟨rfl,w2,fun _ _=>hDn⟩
       | some q=>
        obtain ⟨n,i⟩:=q;rw [hfi] at hfind;simp only [Option.map_some,pt] at hfind;rw [hfind];simp only;rcases hC.rel.idx n i with ⟨e1,e2⟩ | ⟨p,hp,e1,e2,k,e3,e4⟩
        ·rw [e1,e2];exact ⟨rfl,w2,fun _ _=>hDn⟩
        ·rw [e1,e3];simp only [List.getElem?_eq_getElem hp,Option.isNone_some];by_cases h5:c.kind=5
         ·simp only [if_pos h5,Bool.false_eq_true,if_false];obtain ⟨g1,g2,g3,g4,g5⟩:=w2.takeB hp yb;rw [e2] at g1 g2 g3;exact ⟨g1,g3,fun hb _=>(g5 (wn hb).1).2.2⟩
         ·simp only [if_neg h5,Bool.false_eq_true,if_false];obtain ⟨g1,g2,g3⟩:=Ag.revoke F1 n i yb w2 (hC.found_ok hfi).1;exact ⟨g1,g2,fun hb _=>g3 (wn hb).1 hDn⟩
    ·rw [if_neg hw,if_neg hw];obtain ⟨g1,g2⟩:=h.core.small t.root c (by omega) _ rfl;generalize hz:(match cp S.R.L S.R.N t.root c.at_ with
      | none=>((2:Int),S.R)
      | some (n,ix)=>match S.R.L.findIdx? (fh n ix) with
       | none=>(4,S.R)
       | some p=>match S.R.L[p]? with
        | none=>(0,S.R)
        | some e=>((fw S.R t.root c p e).1,{S.R with L:=(fw S.R t.root c p e).2}))=z at g1 g2
     have hz2:(match cp S.R.L S.R.N t.root c.at_ with
      | none=>((2:Int),S)
      | some (n,ix)=>match S.R.L.findIdx? (fh n ix) with
       | none=>(4,S)
       | some p=>match S.R.L[p]? with
        | none=>(0,S)
        | some e=>((fw S.R t.root c p e).1,{S with R:={S.R with L:=(fw S.R t.root c p e).2}}))=(z.1,{S with R:=z.2}):=by
      rw [<- hz];cases cp S.R.L S.R.N t.root c.at_ with
      | none=>rfl
      | some q=>
       obtain ⟨n,i⟩:=q;simp only;cases S.R.L.findIdx? (fh n i) with
       | none=>rfl
       | some p=>
        simp only;cases S.R.L[p]? with
        | none=>rfl
        | some e=>rfl
     rw [hz2];have htq:=aq8 S'.K t.root c;refine ⟨g1,⟨g2,h.d,fun i hi=>?_,h.q.same htq.2.2 (fun x t e1 e2=>⟨t,?_,e2⟩)⟩,fun _ h=>h⟩
     ·rw [bm6];exact h.ws i hi
     ·show (cz S'.K (gq S'.K _ c)).2.thr x=some t;rw [htq.2.1];exact e1
def b7 (S:KS):Prop:=∃R:RS,Ag R S
theorem b7.step {S:KS}(h:b7 S):b7 (az S):=by
 obtain ⟨R,h⟩:=h;exact ⟨_,h.step⟩
theorem b7.at {S:KS}{R:RS}(h:Ag R S){s:Slot}{c:KCap}(hc:S.K.held s=some c):∃(p:Nat) (hp:p<R.R.L.length),R.R.L[p].slot=s:=by
 by_cases hex:∃e∈R.R.L,e.slot=s
 ·obtain ⟨e,he,rfl⟩:=hex;obtain ⟨p,hp,rfl⟩:=List.getElem_of_mem he;exact ⟨p,hp,rfl⟩
 ·have:=h.core.rel.emp s (fun e he e1=>hex ⟨e,he,e1⟩);rw [hc] at this;cases this
theorem b7.take {S:KS}{s:Slot}{c:KCap}(h:b7 S)(hc:S.K.held s=some c):b7 (d_ S s):=by
 obtain ⟨R,h⟩:=h;obtain ⟨p,hp,rfl⟩:=b7.at h hc;exact ⟨_,h.take hp⟩
theorem b7.tree {S:KS}(h:b7 S):ao4 S.K:=by
 obtain ⟨R,h⟩:=h;exact h.core.rel.treeOk
theorem b7.kids {S:KS}(h:b7 S){s:Slot}{x:ly}(hx:S.K.st s=some x):x.kids.length<=16384:=by
 obtain ⟨R,h⟩:=h;exact h.core.kids hx
theorem b7.sums {S:KS}(h:b7 S)(a:Slot)(x:ly)(p:Slot)(y:ly)(hx:S.K.st a=some x)(hy:S.K.st p=some y):y.kids.length+x.kids.length<=1000000:=by
 have:=h.kids hx;have:=h.kids hy;omega
theorem b7.lenD {S:KS}(h:b7 S):S.D.length<=1024:=by
 obtain ⟨R,h⟩:=h;rw [h.d];exact h.core.lenD
theorem b7.dm {S:KS}(h:b7 S)(d:Int×Int)(hd:d∈S.D):0<=d.2/\d.2<=16:=by
 obtain ⟨R,h⟩:=h;rw [h.d] at hd;have:=h.core.dm d hd;exact ⟨this.2.2.1,this.2.2.2.1⟩
theorem b7.hen {S:KS}(h:b7 S)(s:Slot)(b n r g:Int)(hc:S.K.held s=some (.endpoint b n r g)):∃q,S.K.qs b=some q:=by
 obtain ⟨R,h⟩:=h;exact h.core.hen s b n r g hc
theorem b7.qs {S:KS}(h:b7 S)(e:Int)(q:List dx×List dx)(hq:S.K.qs e=some q):q.1.length<=64/\q.2.length<=64:=by
 obtain ⟨R,h⟩:=h;have h1:=h.q.few h.core;rw [h.q.qs e q hq];exact ⟨Nat.le_trans (zn _ _ _) h1,Nat.le_trans (zn _ _ _) h1⟩
theorem b7.ends {S:KS}(h:b7 S):qi az bf F0 S:=by
 obtain ⟨R,h⟩:=h;exact (h.ends F0 h.mu_le).2
noncomputable def worked (S:KS):KS:=(ak az bf F0 S []).1
theorem be9 {σ:Type}{step:σ->σ}{done:σ->Bool}:∀(n:Nat) (S:σ),done S=true->ak step done n S []=(S,[],true)
 | 0,_,_=>rfl
 | n+1,S,h=>by unfold ak;rw [if_pos h]
theorem as9 {σ:Type}{step:σ->σ}{done:σ->Bool}:∀(n:Nat) (S:σ),qi step done n S->(ak step done n S []).2=([],true)/\done (ak step done n S []).1=true
 | 0,S,h=>⟨rfl,h⟩
 | n+1,S,h=>by
  unfold ak;by_cases hd:done S=true
  ·rw [if_pos hd];exact ⟨rfl,hd⟩
  ·rw [if_neg hd];exact as9 n (step S) (h.resolve_left hd)
theorem b7.work {S:KS}(h:b7 S):∀(n:Nat),b7 (ak az bf n S []).1:=by
 intro n;obtain ⟨R,h⟩:=h;exact ⟨_,(h.work n []).2⟩
theorem b7.worked {S:KS}(h:b7 S):b7 (worked S)/\(worked S).D=[]/\ak az bf F0 S []=(Proofs.YtdpjgflemddekaaDoor.worked S,[],true):=by
 have h1:=as9 F0 S h.ends;refine ⟨h.work F0,?_,Prod.ext rfl h1.1⟩;have h2:(Proofs.YtdpjgflemddekaaDoor.worked S).D.isEmpty=true:=h1.2;simpa using h2
theorem bb4 {S:KS}{s:Slot}(h:b7 (d_ S s)):co S s []=(0,worked (d_ S s),[]):=by
 obtain ⟨_,_,e⟩:=h.worked;unfold co;simp [dk,e]
theorem au4 (k:Nat){S:KS}{s:Slot}(hk:bl S.K s=false):bw k S s []=(0,S,[]):=by
 cases k with
 | zero=>rfl
 | succ k=>unfold bw;rw [if_neg (by rw [hk];simp)]
theorem Ag.revStep {R:RS}{S:KS}(h:Ag R S){s:Slot}(hs:0<=s.index)(hk:bl S.K s=true):
 ∃c x,S.K.held (ip S.K s)=some c/\S.K.st s=some x/\x.kids.getLast?=some (ip S.K s)/\∃R',Ag R' (worked (d_ S (ip S.K s)))/\R'.R.L.length<R.R.L.length/\∀k,bw (k+1) S s []=bw k (worked (d_ S (ip S.K s))) s []:=by
 have hC:=h.core;obtain ⟨n,i⟩:=s;rcases hC.rel.idx n i with ⟨e1,e2⟩ | ⟨p,hp,e1,e2,c,e3,e4⟩
 ·exfalso
  have:bl S.K ⟨n,i⟩=false:=by
   unfold bl;rw [hC.rel.treeOk.empty _ e2 hs]
  rw [this] at hk;cases hk
 ·obtain ⟨k1,k2⟩:=hC.rel.kidsOf p hp;rw [e2] at k1 k2;obtain ⟨hj,k3,_⟩:=k2 hk;obtain ⟨c',hc',_⟩:=hC.rel.cap _ (List.getElem_mem hj);rw [k3] at hc';obtain ⟨g1,g2,g3,g4,g5⟩:=h.takeB hj [];rw [k3] at g1 g2 g3;have hg:b7 (d_ S (ip S.K ⟨n,i⟩)):=b7.take ⟨R,h⟩ hc';have e:=bb4 hg;rw [e] at g3;obtain ⟨x,hx⟩:∃x,S.K.st ⟨n,i⟩=some x:=by
   unfold bl at hk;cases hx:S.K.st ⟨n,i⟩ with
   | none=>rw [hx] at hk;cases hk
   | some x=>exact ⟨x,rfl⟩
  have hlast:x.kids.getLast?=some (ip S.K ⟨n,i⟩):=by
   unfold ip;rw [hx];simp only;cases hl:x.kids.getLast? with
   | none=>
    rw [List.getLast?_eq_none_iff] at hl;unfold bl at hk;rw [hx] at hk;simp [hl] at hk
   | some y=>rfl
  refine ⟨c',x,hc',hx,hlast,_,g3,g4,fun k=>?_⟩
  rw [bw,if_pos hk,e];simp
theorem b7.revoke {S:KS}(h:b7 S)(s:Slot)(hs:0<=s.index):b7 (bw F1 S s []).2.1:=by
 obtain ⟨R,h⟩:=h;exact ⟨_,(h.revoke F1 s.node s.index [] hs).2.1⟩
theorem b7.reset {S:KS}{f:Slot}{b n m m':Int}(h:b7 S)(hk:S.K.held f=some (.untyped b n m))(hkid:bl S.K f=false)(h0:0<=m')(h1:m'<=m):b7 ⟨dg S.K f b n m m',S.D⟩:=by
 obtain ⟨R,hA⟩:=h;obtain ⟨p,hp,rfl⟩:=b7.at hA hk;obtain ⟨hC,hD,hws,hQ⟩:=hA;obtain ⟨k,hk2,ht⟩:=hC.rel.cap _ (List.getElem_mem hp);rw [hk] at hk2;cases hk2
 simp only [KCap.told,bo.told,Prod.mk.injEq] at ht;obtain ⟨a1,a2,a3,a4,a5,a6⟩:=ht;have hcap:=hC.cap _ _ hk;simp only [KCap.base,KCap.bits,KCap.mark] at hcap;have hC1:=hC.setMark hp hk (m':=m') (.inr hkid) h0 (by omega);refine ⟨⟨{R.R with L:=R.R.L.set p {R.R.L[p] with mark:=m'}},R.D,oy R.ws (b+m') (m-m'),R.q⟩,⟨⟨hC1.rel.cap,hC1.rel.emp,hC1.rel.tree,hC1.rel.nodes,hC1.rel.thr⟩,hC1.geo,hC1.inN,hC1.dm,hC1.dn,hC1.nod,hC1.cap,hC1.hno,hC1.thd,hC1.hth,hC1.que,hC1.hen,hC1.nd,hC1.td,hC1.nb,hC1.tb,hC1.rt,hC1.dap⟩,hD,?_,hQ.same rfl (fun _ t e1 e2=>⟨t,e1,e2⟩)⟩;exact at0 hws _ _
theorem b7.retypeOk {S:KS}(h:b7 S):ao5 S.K:=by
 obtain ⟨R,h⟩:=h;exact h.core.retypeOk
theorem b7.untyped {S:KS}(h:b7 S){f:Slot}{b n m:Int}(hk:S.K.held f=some (.untyped b n m)):0<=b/\b<=1024/\0<=m/\m<=1024/\0<=n/\n<=10/\b+m<=1024:=by
 obtain ⟨⟨u1,u2⟩,⟨u3,u4⟩,u5,u6⟩:=h.retypeOk.u f b n m hk;obtain ⟨R,h⟩:=h;have:=h.core.cap _ _ hk;simp only [KCap.base,KCap.bits,KCap.mark] at this;omega
def xt:Option KCap->Int×Int×Int×Int×Int×Int
 | some c=>c.told
 | none=>(0,0,0,0,0,0)
def yf:Option ly->Slot
 | some x=>x.parent
 | none=>⟨0,0⟩
def lj (K:a_)(s:Slot):ee:=
 ⟨s.node,s.index,(xt (K.held s)).1,(xt (K.held s)).2.1,(xt (K.held s)).2.2.1,(xt (K.held s)).2.2.2.1,(xt (K.held s)).2.2.2.2.1,(xt (K.held s)).2.2.2.2.2,(yf (K.st s)).node,(yf (K.st s)).index⟩
theorem ug (L:List bo):∀(k:Nat) (_:k<=L.length),∀i (hi:i<k) (h2:i<(jm L k).length),(jm L k)[i]=aw3 L i (L[i]'(by omega))
 | 0,_,i,hi,_=>absurd hi (by omega)
 | k+1,hk,i,hi,h2=>by
  have e:=ae6 L k (by omega);have hl:=tj L k (by omega);have h3:i<(jm L k++[aw3 L k L[k]]).length:=by rw [<- e];exact h2
  have:(jm L (k+1))[i]=(jm L k++[aw3 L k L[k]])[i]'h3:=by congr 1
  rw [this];by_cases hik:i<k
  ·rw [List.getElem_append_left (by rw [hl];exact hik)];exact ug L k (by omega) i hik (by rw [hl];exact hik)
  ·have:i=k:=by omega
   subst this;rw [List.getElem_append_right (by rw [hl];omega)];simp [hl]
theorem x_.caps {R:jh}{K:a_}(h:x_ R K){F:Fo}(hF:ig R.L K.st F):F.slots.map (lj K)=jm R.L R.L.length:=by
 have hsl:=hF.slots;have hlen:(F.slots.map (lj K)).length=R.L.length:=by rw [hsl];simp
 apply List.ext_getElem
 ·rw [hlen,tj _ _ (Nat.le_refl _)]
 ·intro i h1 h2;have hi:i<R.L.length:=by rw [<- hlen];exact h1
  rw [ug R.L R.L.length (Nat.le_refl _) i hi h2];have hs:(F.slots.map (lj K))[i]=lj K R.L[i].slot:=by
   simp only [List.getElem_map];congr 1;have:F.slots[i]'(by simpa using h1)=(R.L.map bo.slot)[i]'(by simpa using hi):=by congr 1
   rw [this];simp
  rw [hs];obtain ⟨c,hc,ht⟩:=h.cap _ (List.getElem_mem hi);have hflat:F.flat 0=(R.L.take i).map bo.key++(R.L[i].slot,R.L[i].up) :: (R.L.drop (i+1)).map bo.key:=by
   rw [<- hF.flat];have:=List.take_append_drop i R.L;conv=>lhs;rw [<- this]
   rw [List.map_append,List.drop_eq_getElem_cons hi];rfl
  obtain ⟨x,hx,hp⟩:=hF.stands.parent hflat;have hpar:x.parent=⟨(par R.L R.L[i].up i).1,(par R.L R.L[i].up i).2⟩:=by
   rcases hp with ⟨e1,e2⟩ | ⟨A1,q,A2,e1,e2,e3⟩
   ·rw [e1,a10 R.L 0 i (by omega) ?_]
    ·exact e2
    ·intro e he;have hm:e.key∈F.flat 0:=by
      rw [<- hF.flat];exact List.mem_map.2 ⟨e,List.mem_of_mem_take he,rfl⟩
     have:=Fo.flat_ge F 0 _ hm;simp only [bo.key] at this;omega
   ·rw [a01 R.L R.L[i].up q i (by omega) A1 A2 e1 e2];exact e3
  unfold lj aw3;rw [hc,hx];simp only [xt,yf,hpar,ht,bo.told];simp only [bo.slot]
theorem bw5 (S:RS)(ty b bits:Int):(ae8 S ty b bits).ws=S.ws:=by
 unfold ae8;split
 ·rfl
 ·split
  ·rfl
  ·split<;>rfl
theorem aj2 (S:RS)(i:Nat)(e:bo):(jg S i e).ws=S.ws:=by
 unfold jg;split
 ·rfl
 ·rw [bw5]
theorem a91 (S:RS)(n i:Int):(sr S n i).ws=S.ws:=by
 unfold sr;split
 ·rfl
 ·split
  ·rfl
  ·rw [aj2]
theorem aj5 (S:RS):(em S).ws=S.ws:=by
 unfold em;split
 ·rfl
 ·split
  ·rfl
  ·rw [a91]
theorem yn:∀(n:Nat) (S:RS) (bs:List Bool),(ak em eh n S bs).1.ws=S.ws
 | 0,_,_=>rfl
 | n+1,S,bs=>by
  unfold ak;split
  ·rfl
  ·cases bs with
   | nil=>simp only;rw [yn n,aj5]
   | cons b r=>
    simp only;split
    ·exact aj5 S
    ·rw [yn n,aj5]
theorem al9 (S:RS)(p:Nat)(e:bo)(bs:List Bool):(takeB S p e bs).2.1.ws=S.ws:=by
 unfold takeB;split
 ·exact aj2 _ _ _
 ·simp only;rw [yn,aj2]
theorem an0:∀(k:Nat) (S:RS) (n i:Int) (bs:List Bool),(bd k S n i bs).2.1.ws=S.ws
 | 0,_,_,_,_=>rfl
 | k+1,S,n,i,bs=>by
  unfold bd;split
  ·rfl
  ·split
   ·rfl
   ·split
    ·rfl
    ·split
     ·rfl
     ·split
      ·rw [an0 k,al9]
      ·exact al9 _ _ _ _
theorem bb2 (S:RS)(root:Int)(c:Cl)(p:Nat)(e:bo)(bs:List Bool)(j:Nat):(ey S root c p e bs).2.ws j=S.ws j\/(ey S root c p e bs).2.ws j=0:=by
 have hc:∀m,(fc S p e m).ws j=S.ws j\/(fc S p e m).ws j=0:=fun m=>by
  show oy S.ws (e.base+m) (e.mark-m) j=_\/oy S.ws (e.base+m) (e.mark-m) j=0;unfold oy;split
  ·exact .inr rfl
  ·exact .inl rfl
 unfold ey;split
 ·exact .inl rfl
 ·split
  ·exact .inl rfl
  ·split
   ·exact .inl rfl
   ·split
    ·exact .inl rfl
    ·split
     ·exact .inl rfl
     ·split
      ·split
       ·exact hc _
       ·exact hc _
      ·exact .inl rfl
theorem b13 (S:RS)(b:Int)(c:Cl)(bs:List Bool)(j:Nat):(dy S b c bs).2.ws j=S.ws j\/(dy S b c bs).2.ws j=0:=by
 have hy:=yn F0 S bs;unfold dy;generalize ak em eh F0 S bs=y at hy;obtain ⟨S1,bs1,ok⟩:=y;simp only at hy;simp only;cases S.R.T.find? (ao b) with
 | none=>exact .inl rfl
 | some t=>
  simp only;by_cases h1:t.state≠1
  ·rw [if_pos h1];exact .inl rfl
  ·rw [if_neg h1];by_cases h2:c.kind<1\/11<c.kind
   ·rw [if_pos h2];exact .inl rfl
   ·rw [if_neg h2];by_cases h3:c.kind=1\/c.kind=5\/c.kind=6
    ·rw [if_pos h3];by_cases h4:ok=false
     ·rw [if_pos h4];exact .inl (by rw [hy])
     ·rw [if_neg h4];cases cp S1.R.L S1.R.N (o6 S1.R.N t.root) c.at_ with
      | none=>exact .inl (by rw [hy])
      | some q=>
       obtain ⟨n,ix⟩:=q;simp only;cases S1.R.L.findIdx? (fh n ix) with
       | none=>
        simp only;by_cases h5:c.kind=1
        ·rw [if_pos h5];exact .inl (by rw [hy])
        ·rw [if_neg h5];exact .inl (by rw [hy])
       | some p=>
        simp only;cases S1.R.L[p]? with
        | none=>exact .inl (by rw [hy])
        | some e=>
         simp only;by_cases h5:c.kind=1
         ·rw [if_pos h5];have:=bb2 S1 (o6 S1.R.N t.root) c p e bs1 j;rw [hy] at this;exact this
         ·rw [if_neg h5];by_cases h6:c.kind=5
          ·rw [if_pos h6];exact .inl (by rw [al9,hy])
          ·rw [if_neg h6];exact .inl (by rw [an0,hy])
    ·rw [if_neg h3];cases cp S.R.L S.R.N t.root c.at_ with
     | none=>exact .inl rfl
     | some q=>
      obtain ⟨n,ix⟩:=q;simp only;cases S.R.L.findIdx? (fh n ix) with
      | none=>exact .inl rfl
      | some p=>
       simp only;cases S.R.L[p]? with
       | none=>exact .inl rfl
       | some e=>exact .inl rfl
end Go.Proofs.YtdpjgflemddekaaDoor

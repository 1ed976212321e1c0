/- The document's answer: a slot that holds nothing; Do, up to what is looked up. -/
import Derived.Test.YtdpjgflemddekaaGreatDoorMRefC
import Derived.Test.YtdpjgflemddekaaGreatDoorMBaseRet
set_option maxRecDepth 100000
set_option maxHeartbeats 2000000
namespace Go.Proofs.YtdpjgflemddekaaGreatDoor
open Go.RowKit
theorem rcopy_neg (kb:Nat)(root:Int)(c:Cl)(av tv hv:Value)(cs:Array Value)(w:World)(hh:hv=.agg cs):
 Calls Tryz.prog 86 #[.pointer (some ⟨kb,0,none⟩),.int .i64 root,.agg (c.cells av tv),.int .i64 (-1),hv] w fun e' w'=>
  e'=.returned (.int .i64 4)/\Fr w w' (fun _=>False):=by
 subst hh;unfold Cl.cells;go_enter Tryz.func86,Tryz.ntmps86
 go_wp2_with fail
 go_ret;exact ⟨rfl,((Fr.refl _ _).alloc _).alloc _⟩
theorem rretype_neg (kb:Nat)(root:Int)(c:Cl)(av tv:Value)(w:World):
 Calls Tryz.prog 83 #[.pointer (some ⟨kb,0,none⟩),.int .i64 root,.agg (c.cells av tv),.int .i64 (-1),.agg #[.int .i64 0,.int .i64 0,.int .i64 0,.int .i64 0,.int .i64 0,.int .i64 0]] w fun e' w'=>
  e'=.returned (.int .i64 3)/\Fr w w' (fun _=>False):=by
 unfold Cl.cells;go_enter Tryz.func83,Tryz.ntmps83
 go_wp2_with fail
 go_ret;exact ⟨rfl,((Fr.refl _ _).alloc _).alloc _⟩
theorem RefAt.setBS {w:World}{kb:Nat}{R:Ref}{V:RefV}(h:RefAt w kb R V)(bv sv:Value):
 RefAt ((w.setCell ⟨kb,1029,none⟩ bv).setCell ⟨kb,1030,none⟩ sv) kb R {V with bv:=bv,sv:=sv}:=by
 have hf:Fr w ((w.setCell ⟨kb,1029,none⟩ bv).setCell ⟨kb,1030,none⟩ sv) (fun k=>k=kb):=
  Fr.setCell (S:=fun k=>k=kb) (Fr.setCell (S:=fun k=>k=kb) (Fr.refl _ _) (.inl rfl) _ _) (.inl rfl) _ _
 obtain ⟨c,hc,hcc⟩:=h.blk;refine ⟨⟨_,ai _ kb 1030 sv (ai w kb 1029 bv hc),?_⟩,hf.owns h.l (fun k hk e=>h.kl (e▸hk)),hf.owns h.n (fun k hk e=>h.kn (e▸hk)),hf.owns h.t (fun k hk e=>h.kt (e▸hk)),h.kl,h.kn,h.kt,h.ln,h.lt,h.nt⟩
 obtain ⟨c0,c1,c2,c3,c4,c5,c6,c7,c8⟩:=hcc;refine ⟨by simpa using c0,?_,?_,?_,?_,?_,?_,?_,by simp [c0]⟩
 ·rw [Array.getElem?_setIfInBounds_ne (by omega),Array.getElem?_setIfInBounds_ne (by omega)];exact c1
 ·intro i hi;rw [Array.getElem?_setIfInBounds_ne (by omega),Array.getElem?_setIfInBounds_ne (by omega)];exact c2 i hi
 ·rw [Array.getElem?_setIfInBounds_ne (by omega),Array.getElem?_setIfInBounds_ne (by omega)];exact c3
 ·rw [Array.getElem?_setIfInBounds_ne (by omega),Array.getElem?_setIfInBounds_ne (by omega)];exact c4
 ·rw [Array.getElem?_setIfInBounds_ne (by omega),Array.getElem?_setIfInBounds_ne (by omega)];exact c5
 ·rw [Array.getElem?_setIfInBounds_ne (by omega),Array.getElem?_setIfInBounds_ne (by omega)];exact c6
 ·rw [Array.getElem?_setIfInBounds_ne (by omega)];simp [c0]
def DoOut (w:World)(kb:Nat)(V:RefV)(y:Int×Ref)(e':Ending)(w':World):Prop:=
 e'=.returned (.tuple #[.int .i64 0,.int .i64 y.1])/\∃V',RefAt w' kb y.2 V'/\V'.qv=V.qv/\V'.dv=V.dv/\V'.ws=V.ws/\Fr w w' (V.fp kb)/\(∀k,V'.fp kb k->V.fp kb k\/w.heap.size<=k)
theorem do_fail {w W1:World}{kb:Nat}{R:Ref}{V:RefV}(h:RefAt w kb R V)(hf:Fr w W1 (fun _=>False)){x:Int}{y:Int×Ref}(hy:y=(x,R)):
 DoOut w kb V y (.returned (.tuple #[.int .i64 0,.int .i64 x])) W1:=by
 subst hy;exact ⟨rfl,V,h.frame hf (fun _ _=>id),rfl,rfl,rfl,hf.mono (fun _=>False.elim),fun k hk=>.inl hk⟩
theorem rdo_no (R:Ref)(V:RefV)(kb:Nat)(b:Int)(c:Cl)(av tv bv:Value)(w:World)(h:RefAt w kb R V)(ho:R.T.length<=900000)
 (hno:∀t,R.T.find? (af b)=some t->t.state≠1\/c.kind<1\/11<c.kind) :
 Calls Tryz.prog 48 #[.pointer (some ⟨kb,0,none⟩),.int .i64 b,.agg (c.cells av tv),bv] w (DoOut w kb V (doR R b c)):=by
 have hct:=h.ct;have hklt:kb<w.heap.size:=World.block_lt_of_cell? w _ hct;unfold Cl.cells;have h1:=fun o:Obj=>h.frame ((Fr.refl w (fun _=>False)).alloc o) (fun _ _=>id)
 rcases idx_cases (af b) R.T with ⟨hx,hfi⟩ | ⟨p,hp,hx,hfi,_⟩
 ·have HC:Hid (doR R b c=(1,R)):=by show _=_;unfold doR;rw [hfi]
  go_enter Tryz.func48,Tryz.ntmps48
  go_wp2_with fail
  refine (de R.T kb V.tv b _ (by omega) (h1 _).ct (h1 _).ltt).mono ?_;rintro e w1 ⟨rfl,rfl⟩;unfold thI;rw [hx];go_wp2;go_ret2;exact do_fail h ((Fr.refl _ _).alloc _) HC.out
 ·obtain ⟨g,cap,htv,hcap,hglt,t0,t1,t2,t3,t4,t5⟩:=thr_cells h p hp;rw [htv] at hct;clear htv;by_cases hst:R.T[p].state=1
  ·have hkd:c.kind<1\/11<c.kind:=by
    rcases hno _ hfi with h2 | h2
    ·exact absurd hst h2
    ·exact h2
   have HC:Hid (doR R b c=(7,R)):=by
    show _=_;unfold doR;rw [hfi];show (if R.T[p].state≠1 then (1,R) else if c.kind<1\/11<c.kind then (7,R) else _)=_;rw [if_neg (by simp [hst]),if_pos hkd]
   have hs':(R.T[p].state != 1)=false:=by simpa using hst
   clear hst hno hfi;by_cases hk1:c.kind<1
   ·clear hkd;go_enter Tryz.func48,Tryz.ntmps48
    go_wp2_with fail
    refine (de R.T kb V.tv b _ (by omega) (h1 _).ct (h1 _).ltt).mono ?_;rintro e w1 ⟨rfl,rfl⟩;unfold thI;rw [hx];go_wp2;go_ret2;exact do_fail h ((Fr.refl _ _).alloc _) HC.out
   ·have hk2:11<c.kind:=by omega
    clear hkd;go_enter Tryz.func48,Tryz.ntmps48
    go_wp2_with fail
    refine (de R.T kb V.tv b _ (by omega) (h1 _).ct (h1 _).ltt).mono ?_;rintro e w1 ⟨rfl,rfl⟩;unfold thI;rw [hx];go_wp2;go_ret2;exact do_fail h ((Fr.refl _ _).alloc _) HC.out
  ·have HC:Hid (doR R b c=(1,R)):=by
    show _=_;unfold doR;rw [hfi];show (if R.T[p].state≠1 then (1,R) else _)=_;rw [if_pos hst]
   have hs':(R.T[p].state != 1)=true:=by simpa using hst
   clear hst hno hfi;go_enter Tryz.func48,Tryz.ntmps48
   go_wp2_with fail
   refine (de R.T kb V.tv b _ (by omega) (h1 _).ct (h1 _).ltt).mono ?_;rintro e w1 ⟨rfl,rfl⟩;unfold thI;rw [hx];go_wp2;go_ret2;exact do_fail h ((Fr.refl _ _).alloc _) HC.out
theorem IntsAt.fr' {w w':World}{v:Value}{l:List Int}{S:Nat->Prop}(h:IntsAt w v l)(hf:Fr w w' S)(hs:0<l.length->∀k,v.ownBlock=some k->¬S k):IntsAt w' v l:=by
 obtain ⟨A,cap,rfl,hA⟩:=h;refine ⟨A,cap,rfl,fun h0=>?_⟩
 obtain ⟨g,o,rfl,hc⟩:=hA h0;exact ⟨g,o,rfl,fun i hi=>hf.cell (hc i hi) (hs h0 g rfl)⟩
structure RefOk (R:Ref):Prop where
 n:R.L.length<=900000
 m:R.N.length<=900000
 o:R.T.length<=900000
 b:∀l∈R.N,0<=l.bits/\l.bits<=20
 u:∀i (hi:i<R.L.length),0<=R.L[i].up/\R.L[i].up<=900000
theorem rcopy_all (R:Ref)(V:RefV)(kb:Nat)(root:Int)(c:Cl)(av tv:Value)(p:Nat)(w:World)(h:RefAt w kb R V)(hR:RefOk R)(hp:p<R.L.length)(hl:c.to.length<=9000000000000000000)
 (htv:IntsAt w tv c.to) (hk:c.kind=2\/c.kind=3\/c.kind=4) :
 Calls Tryz.prog 86 #[.pointer (some ⟨kb,0,none⟩),.int .i64 root,.agg (c.cells av tv),.int .i64 p,.agg #[.int .i64 R.L[p].ty,.int .i64 R.L[p].base,.int .i64 R.L[p].bits,.int .i64 R.L[p].rights,.int .i64 R.L[p].badge,.int .i64 R.L[p].mark]] w fun e' w'=>
  e'=.returned (.int .i64 (bm R root c p R.L[p]).1)/\∃lv',RefAt w' kb {R with L:=(bm R root c p R.L[p]).2} {V with lv:=lv'}/\Fr w w' (V.fp kb)/\(∀k,lv'.ownBlock=some k->V.lv.ownBlock=some k\/w.heap.size<=k):=by
 have hn:=hR.n;have hm:=hR.m;obtain ⟨hu0,hu1⟩:=hR.u p hp;rcases hk with hk | hk | hk
 ·exact rcopy_any R V kb root c av tv p w h (by omega) (by omega) hR.b hp hl hu0 (by omega) htv hk
 ·exact rmint_any R V kb root c av tv p w h (by omega) (by omega) hR.b hp hl hu0 (by omega) htv hk
 ·refine (rmove_any R V kb root c av tv p w h (by omega) (by omega) hR.b hp hl htv hk).mono ?_;rintro e w' ⟨he,h1,hf⟩;exact ⟨he,V.lv,h1,hf,fun k hk=>.inl hk⟩
theorem rdo_copy (R:Ref)(V:RefV)(kb:Nat)(b:Int)(c:Cl)(av tv:Value)(ba:Option Addr)(bn bc:Nat)(t:Thr)(w:World)(h:RefAt w kb R V)(hR:RefOk R)
 (hal:c.at_.length<=9000000000000000000) (hl:c.to.length<=9000000000000000000) (hav:IntsAt w av c.at_) (htv:IntsAt w tv c.to)
 (hda:0<c.at_.length->∀k,av.ownBlock=some k->¬V.fp kb k) (hdt:0<c.to.length->∀k,tv.ownBlock=some k->¬V.fp kb k)
 (hk:c.kind=2\/c.kind=3\/c.kind=4) (hfi:R.T.find? (af b)=some t) (hst:t.state=1) :
 Calls Tryz.prog 48 #[.pointer (some ⟨kb,0,none⟩),.int .i64 b,.agg (c.cells av tv),.slice ba bn bc] w (DoOut w kb V (doR R b c)):=by
 have hct:=h.ct;have hklt:kb<w.heap.size:=World.block_lt_of_cell? w _ hct;have hn:=hR.n;have hm:=hR.m;have ho:=hR.o;have h1:=fun o:Obj=>h.frame ((Fr.refl w (fun _=>False)).alloc o) (fun _ _=>id)
 rcases idx_cases (af b) R.T with ⟨hx,hfi2⟩ | ⟨p,hp,hx,hfi2,_⟩
 ·rw [hfi2] at hfi;cases hfi
 rw [hfi2] at hfi;cases hfi
 obtain ⟨g,cap,htv',hcap,hglt,t0,t1,t2,t3,t4,t5⟩:=thr_cells h p hp;rw [htv'] at hct;clear htv';rw [hst] at t1;have k1:(c.kind==1)=false:=by simp;omega
 have k5:(c.kind==5)=false:=by simp;omega
 have k6:(c.kind==6)=false:=by simp;omega
 have kl:1<=c.kind:=by omega
 have kh:c.kind<=11:=by omega
 have hcells:c.cells av tv=#[.int .i64 c.kind,av,tv,.int .i64 c.ty,.int .i64 c.bits,.int .i64 c.count,.int .i64 c.rights,.int .i64 c.badge,.int .i64 c.value,.int .i64 c.offset]:=rfl;rw [hcells];clear hcells;have hz9:w.frozen? ⟨kb,1029,none⟩=false:=h.fz _;have hz0:w.frozen? ⟨kb,1030,none⟩=false:=h.fz _;obtain ⟨cc,hcb,hcc⟩:=h.blk;have hb9:w.cell? ⟨kb,1029,none⟩=some V.bv:=aa hcb hcc.b;have hb0:w.cell? ⟨kb,1030,none⟩=some V.sv:=aa hcb hcc.s;clear hcb hcc;go_enter Tryz.func48,Tryz.ntmps48
 go_wp2_with fail
 refine (de R.T kb V.tv b _ (by omega) (h1 _).ct (h1 _).ltt).mono ?_;rintro e w1 ⟨rfl,rfl⟩;unfold thI;rw [hx];go_wp2_with fail
 have h2:=(h.setBS (.slice ba bn bc) (.bool false)).frame ((Fr.refl _ (fun _=>False)).alloc (Obj.cells #[.int .i64 c.kind,av,tv,.int .i64 c.ty,.int .i64 c.bits,.int .i64 c.count,.int .i64 c.rights,.int .i64 c.badge,.int .i64 c.value,.int .i64 c.offset] 41)) (fun _ _=>id);have hf2:Fr w (((w.setCell ⟨kb,1029,none⟩ (.slice ba bn bc)).setCell ⟨kb,1030,none⟩ (.bool false)).alloc (Obj.cells #[.int .i64 c.kind,av,tv,.int .i64 c.ty,.int .i64 c.bits,.int .i64 c.count,.int .i64 c.rights,.int .i64 c.badge,.int .i64 c.value,.int .i64 c.offset] 41)) (V.fp kb):=
  (((Fr.refl _ _).setCell (.inl (.inl rfl)) _ _).setCell (.inl (.inl rfl)) _ _).alloc _
 have hba:=heap_alloc_new ((w.setCell ⟨kb,1029,none⟩ (.slice ba bn bc)).setCell ⟨kb,1030,none⟩ (.bool false)) (Obj.cells #[.int .i64 c.kind,av,tv,.int .i64 c.ty,.int .i64 c.bits,.int .i64 c.count,.int .i64 c.rights,.int .i64 c.badge,.int .i64 c.value,.int .i64 c.offset] 41);rw [bk,bk] at hba;generalize ((w.setCell ⟨kb,1029,none⟩ (.slice ba bn bc)).setCell ⟨kb,1030,none⟩ (.bool false)).alloc (Obj.cells #[.int .i64 c.kind,av,tv,.int .i64 c.ty,.int .i64 c.bits,.int .i64 c.count,.int .i64 c.rights,.int .i64 c.badge,.int .i64 c.value,.int .i64 c.offset] 41)=W2 at *
 have HV:Hid (∃V2:RefV,V2={V with bv:=.slice ba bn bc,sv:=.bool false}):=⟨_,rfl⟩;obtain ⟨V2,hV2⟩:=HV.out;rw [<- hV2] at h2;have hfp:∀k,V2.fp kb k->V.fp kb k:=by rw [hV2];exact fun k hk=>hk
 have hfp':∀k,V.fp kb k->V2.fp kb k:=by rw [hV2];exact fun k hk=>hk
 have hV3:V2.qv=V.qv/\V2.dv=V.dv/\V2.ws=V.ws:=by rw [hV2];exact ⟨rfl,rfl,rfl⟩
 clear HV hV2;have ok:∀W' (y:Int×Ref),Fr W2 W' (fun _=>False)->doR R b c=y->y.2=R->DoOut w kb V (doR R b c) (.returned (.tuple #[.int .i64 0,.int .i64 y.1])) W':=by
  intro W' y hf hy hy2;subst hy;refine ⟨rfl,V2,?_,hV3.1,hV3.2.1,hV3.2.2,hf2.step hf (fun _=>False.elim),fun k hk=>.inl (hfp k hk)⟩
  rw [hy2];exact h2.frame hf (fun _ _=>id)
 have HD:Hid (doR R b c=match bd R.L R.N R.T[p].root c.at_ with
  | none=>(2,R)
  | some (n,ix)=>match R.L.findIdx? (cz n ix) with
   | none=>(4,R)
   | some p'=>match R.L[p']? with
    | none=>(0,R)
    | some e=>((bm R R.T[p].root c p' e).1,{R with L:=(bm R R.T[p].root c p' e).2})):=by
  show _=_;have q1:¬c.kind=1:=by omega
  unfold doR;rw [hfi2];simp only [hst,ne_eq,not_true_eq_false,if_false,q1];rw [if_neg (by omega)];rfl
 have hav2:=hav.fr' hf2 hda;have htv2:=htv.fr' hf2 hdt;refine (find_any R.L R.N kb V2.lv V2.nv av R.T[p].root c.at_ W2 (by omega) (by omega) hal h2.cl h2.ll h2.cn h2.lnn hR.b hav2).mono ?_;rintro e w3 ⟨rfl,q,rfl⟩;have hk0:W2.cell? ⟨w.heap.size,0,none⟩=some (.int .i64 c.kind):=aa hba rfl;cases hf:bd R.L R.N R.T[p].root c.at_ with
 | none=>
  rw [hf] at HD;dsimp only [ans3];go_wp2;go_ret2;exact ok _ (2,R) ((Fr.refl _ _).drewN q) HD.out rfl
 | some ni=>
  obtain ⟨n,ix⟩:=ni;rw [hf] at HD;clear hf;dsimp only [ans3] at HD ⊢;go_wp2_with fail
  have h3:RefAt (W2.drewN q) kb R V2:=h2.frame ((Fr.refl _ (fun _=>False)).drewN q) (fun _ _=>id);refine (at_any R.L kb V2.lv n ix _ (by omega) h3.cl h3.ll).mono ?_;rintro e w4 ⟨rfl,rfl⟩;have hf23:Fr W2 (W2.drewN q) (fun _=>False):=(Fr.refl _ _).drewN q;have hba3:(W2.drewN q).heap[w.heap.size]?=_:=hba;have hct3:=h3.ct;generalize W2.drewN q=W3 at *
  have kk0:=aa (o:=0) hba3 rfl;have kk1:=aa (o:=1) hba3 rfl;have kk2:=aa (o:=2) hba3 rfl;have kk3:=aa (o:=3) hba3 rfl;have kk4:=aa (o:=4) hba3 rfl;have kk5:=aa (o:=5) hba3 rfl;have kk6:=aa (o:=6) hba3 rfl;have kk7:=aa (o:=7) hba3 rfl;have kk8:=aa (o:=8) hba3 rfl;have kk9:=aa (o:=9) hba3 rfl;have hsw:w.heap.size<W3.heap.size:=(Array.getElem?_eq_some_iff.1 hba3).1;have hkw:kb<W3.heap.size:=by omega
  rcases idx_cases (cz n ix) R.L with ⟨hx2,hfi3⟩ | ⟨p2,hp2,hx2,hfi3,_⟩
  ·have HD2:Hid (doR R b c=(4,R)):=by
    show _=_;rw [HD.out];have:R.L.findIdx? (cz n ix)=none:=by
     cases hq:R.L.findIdx? (cz n ix) with
     | none=>rfl
     | some v=>rw [hq] at hx2;simp [optI] at hx2
    rw [this]
   unfold atI;rw [hx2];clear HD;rcases hk with hk | hk | hk
   ·have HK:Hid (c.kind=2):=hk;have e2:(c.kind==2)=true:=by simpa using hk
    clear hk;go_wp2_with fail
    go_must (refine (rcopy_neg kb R.T[p].root c av tv _ _ _ rfl).mono ?_)
    rintro e W5 ⟨rfl,hf5⟩;have hf6:Fr W2 W5 (fun _=>False):=(hf23.alloc _).step hf5 (fun _=>False.elim);clear hf5;go_wp2;go_ret2;exact ok _ (4,R) hf6 HD2.out rfl
   ·have HK:Hid (c.kind=3):=hk;have e2:(c.kind==2)=false:=by rw [hk];rfl
    have e3:(c.kind==3)=true:=by simpa using hk
    clear hk;go_wp2_with fail
    go_must (refine (rcopy_neg kb R.T[p].root c av tv _ _ _ rfl).mono ?_)
    rintro e W5 ⟨rfl,hf5⟩;have hf6:Fr W2 W5 (fun _=>False):=(hf23.alloc _).step hf5 (fun _=>False.elim);clear hf5;go_wp2;go_ret2;exact ok _ (4,R) hf6 HD2.out rfl
   ·have HK:Hid (c.kind=4):=hk;have e2:(c.kind==2)=false:=by rw [hk];rfl
    have e3:(c.kind==3)=false:=by rw [hk];rfl
    have e4:(c.kind==4)=true:=by simpa using hk
    clear hk;go_wp2_with fail
    go_must (refine (rcopy_neg kb R.T[p].root c av tv _ _ _ rfl).mono ?_)
    rintro e W5 ⟨rfl,hf5⟩;have hf6:Fr W2 W5 (fun _=>False):=(hf23.alloc _).step hf5 (fun _=>False.elim);clear hf5;go_wp2;go_ret2;exact ok _ (4,R) hf6 HD2.out rfl
  ·obtain ⟨g2,cap2,hlv2,hcap2,hglt2,d0,d1,d2,d3,d4,d5,d6,d7,d8⟩:=ent_cells h3 p2 hp2;have hc3:=h3.cl;rw [hlv2] at hc3;clear hlv2;have HD2:Hid (doR R b c=((bm R R.T[p].root c p2 R.L[p2]).1,{R with L:=(bm R R.T[p].root c p2 R.L[p2]).2})):=by
    show _=_;rw [HD.out];have:R.L.findIdx? (cz n ix)=some p2:=by
     cases hq:R.L.findIdx? (cz n ix) with
     | none=>rw [hq] at hx2;simp [optI] at hx2
     | some v=>
      rw [hq] at hx2;have hv0:(v:Int)=(p2:Int):=hx2;have hv:v=p2:=by omega
      rw [hv]
    rw [this];simp only [List.getElem?_eq_getElem hp2]
   unfold atI;rw [hx2];clear HD;have hkk:=hk;have okc:∀W4 W5 lv',Fr W3 W4 (fun _=>False)->RefAt W5 kb {R with L:=(bm R R.T[p].root c p2 R.L[p2]).2} {V2 with lv:=lv'}->Fr W4 W5 (V2.fp kb)->(∀k,lv'.ownBlock=some k->V2.lv.ownBlock=some k\/W4.heap.size<=k)->
    DoOut w kb V (doR R b c) (.returned (.tuple #[.int .i64 0,.int .i64 (bm R R.T[p].root c p2 R.L[p2]).1])) W5:=by
    intro W4 W5 lv' hf4 h5 hf5 hlt5;have hf24:Fr w W4 (V.fp kb):=(hf2.step hf23 (fun _=>False.elim)).step hf4 (fun _=>False.elim);refine ⟨by rw [HD2.out],{V2 with lv:=lv'},by rw [HD2.out];exact h5,hV3.1,hV3.2.1,hV3.2.2,hf24.step hf5 (fun k hk=>.inl (hfp k hk)),?_⟩
    rintro k (h9 | h9 | h9 | h9)
    ·exact .inl (.inl h9)
    ·rcases hlt5 k h9 with h10 | h10
     ·exact .inl (hfp k (.inr (.inl h10)))
     ·exact .inr (Nat.le_trans hf24.size h10)
    ·exact .inl (hfp k (.inr (.inr (.inl h9))))
    ·exact .inl (hfp k (.inr (.inr (.inr h9))))
   have htv3:=htv2.fr hf23 (fun _ _=>id);rcases hk with hk | hk | hk
   ·have HK:Hid (c.kind=2):=hk;have e2:(c.kind==2)=true:=by simpa using hk
    clear hk;go_wp2_with fail
    have h4:=h3.frame ((Fr.refl W3 (fun _=>False)).alloc (.cells #[.int .i64 R.L[p2].ty,.int .i64 R.L[p2].base,.int .i64 R.L[p2].bits,.int .i64 R.L[p2].rights,.int .i64 R.L[p2].badge,.int .i64 R.L[p2].mark] 46)) (fun _ _=>id);go_must (refine (rcopy_all R V2 kb R.T[p].root c av tv p2 _ h4 hR hp2 hl (htv3.fr ((Fr.refl W3 (fun _=>False)).alloc _) (fun _ _=>id)) hkk).mono ?_)
    rintro e W5 ⟨rfl,lv',h5,hf5,hlt5⟩;have fin:=okc _ W5 lv' ((Fr.refl W3 (fun _=>False)).alloc _) h5 hf5 hlt5;clear okc h5 hf5 hlt5 h4;go_wp2;go_ret2;exact fin
   ·have HK:Hid (c.kind=3):=hk;have e2:(c.kind==2)=false:=by rw [hk];rfl
    have e3:(c.kind==3)=true:=by simpa using hk
    clear hk;go_wp2_with fail
    have h4:=h3.frame ((Fr.refl W3 (fun _=>False)).alloc (.cells #[.int .i64 R.L[p2].ty,.int .i64 R.L[p2].base,.int .i64 R.L[p2].bits,.int .i64 R.L[p2].rights,.int .i64 R.L[p2].badge,.int .i64 R.L[p2].mark] 46)) (fun _ _=>id);go_must (refine (rcopy_all R V2 kb R.T[p].root c av tv p2 _ h4 hR hp2 hl (htv3.fr ((Fr.refl W3 (fun _=>False)).alloc _) (fun _ _=>id)) hkk).mono ?_)
    rintro e W5 ⟨rfl,lv',h5,hf5,hlt5⟩;have fin:=okc _ W5 lv' ((Fr.refl W3 (fun _=>False)).alloc _) h5 hf5 hlt5;clear okc h5 hf5 hlt5 h4;go_wp2;go_ret2;exact fin
   ·have HK:Hid (c.kind=4):=hk;have e2:(c.kind==2)=false:=by rw [hk];rfl
    have e3:(c.kind==3)=false:=by rw [hk];rfl
    have e4:(c.kind==4)=true:=by simpa using hk
    clear hk;go_wp2_with fail
    have h4:=h3.frame ((Fr.refl W3 (fun _=>False)).alloc (.cells #[.int .i64 R.L[p2].ty,.int .i64 R.L[p2].base,.int .i64 R.L[p2].bits,.int .i64 R.L[p2].rights,.int .i64 R.L[p2].badge,.int .i64 R.L[p2].mark] 46)) (fun _ _=>id);go_must (refine (rcopy_all R V2 kb R.T[p].root c av tv p2 _ h4 hR hp2 hl (htv3.fr ((Fr.refl W3 (fun _=>False)).alloc _) (fun _ _=>id)) hkk).mono ?_)
    rintro e W5 ⟨rfl,lv',h5,hf5,hlt5⟩;have fin:=okc _ W5 lv' ((Fr.refl W3 (fun _=>False)).alloc _) h5 hf5 hlt5;clear okc h5 hf5 hlt5 h4;go_wp2;go_ret2;exact fin
end Go.Proofs.YtdpjgflemddekaaGreatDoor

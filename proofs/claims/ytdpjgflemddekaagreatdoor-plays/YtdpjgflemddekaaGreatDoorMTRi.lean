/- The document's answer: Do of Retype, Delete and Revoke. -/
import Derived.Test.YtdpjgflemddekaaGreatDoorMRefD
import Derived.Test.YtdpjgflemddekaaGreatDoorMTRh
set_option maxRecDepth 100000
set_option maxHeartbeats 4000000
namespace Go.Proofs.YtdpjgflemddekaaGreatDoor
open Go.RowKit
def av4 (w:World)(kb:Nat)(V:ax)(y:Int×RS)(e':Ending)(w':World):Prop:=
 e'=.returned (.tuple #[.int .i64 0,.int .i64 y.1])/\∃V',fh w kb V y.2 V' w'
theorem j2.ent {S:RS}(h:j2 S):bz6 S.R/\∀i (hi:i<S.R.L.length),0<=S.R.L[i].mark/\S.R.L[i].mark<=1024/\0<=S.R.L[i].base/\S.R.L[i].base+S.R.L[i].mark<=1024/\S.R.L[i].bits<=20:=by
 obtain ⟨S',hA⟩:=h;have hRo:=hA.core.refOk;refine ⟨⟨hRo.1,hRo.2.1,hRo.2.2.1,hRo.2.2.2.1,hRo.2.2.2.2⟩,fun i hi=>?_⟩
 obtain ⟨c,hc,ht⟩:=hA.core.rel.cap _ (List.getElem_mem hi);obtain ⟨t1,t2,t3⟩:=pa ht;obtain ⟨h1,h2,h3,h4,h5,h6⟩:=hA.core.cap _ c hc;rw [<- t1,<- t2,<- t3];have:=lq c.bits.toNat;have h7:=xt (a:=c.bits.toNat) (b:=10) (by omega);have h8:pw 10=1024:=by decide
 exact ⟨h5,by omega,h1,by omega,by omega⟩
def pj (z:RS×List Bool×Bool)(root:Int)(c:Cl):Int×RS:=
 if z.2.2=false then (8,z.1)
 else match bk z.1.R.L z.1.R.N (fx z.1.R.N root) c.at_ with
  | none=>(2,z.1)
  | some (n,ix)=>match z.1.R.L.findIdx? (ee n ix) with
   | none=>if c.kind=1 then (3,z.1) else (4,z.1)
   | some p=>match z.1.R.L[p]? with
    | none=>(0,z.1)
    | some e=>if c.kind=1 then j0 z.1 (fx z.1.R.N root) c p e z.2.1
     else if c.kind=5 then ((takeB z.1 p e z.2.1).1,(takeB z.1 p e z.2.1).2.1)
     else ((ew F1 z.1 n ix z.2.1).1,(ew F1 z.1 n ix z.2.1).2.1)
theorem ae7 {S:RS}{b:Int}{c:Cl}{bs:List Bool}{t:ej}(hfi:S.R.T.find? (af b)=some t)(hst:t.state=1)(hk:c.kind=1\/c.kind=5\/c.kind=6):
 p_ S b c bs=pj (ao cg df F0 S bs) t.root c:=by
 unfold p_;rw [hfi];simp only;rw [if_neg (by simp [hst]),if_neg (by omega),if_pos hk];rfl
theorem b57 (S:RS)(V:ax)(kb:Nat)(b:Int)(c:Cl)(av tv bv:Value)(bs:List Bool)(t:ej)(w:World)(h:RD w kb S V)(hG:j2 S)
 (hal:c.at_.length<=9000000000000000000) (hl:c.to.length<=9000000000000000000) (hav:ay w av c.at_) (htv:ay w tv c.to) (hbv:eo w bv bs)
 (hda:0<c.at_.length->∀k,av.ownBlock=some k->¬V.fq kb k) (hdt:0<c.to.length->∀k,tv.ownBlock=some k->¬V.fq kb k) (hdb:∀g,bv.ownBlock=some g->0<bs.length->¬V.fq kb g/\g<w.heap.size)
 (hk:c.kind=1) (hfi:S.R.T.find? (af b)=some t) (hst:t.state=1) :
 Calls Tryz.prog 48 #[.pointer (some ⟨kb,0,none⟩),.int .i64 b,.agg (c.cells av tv),bv] w (av4 w kb V (p_ S b c bs)):=by
 generalize hyy:p_ S b c bs=y;have HYG:Hid (p_ S b c bs=y):=hyy;clear hyy;have hct:=h.ref.ct;have hklt:kb<w.heap.size:=World.block_lt_of_cell? w _ hct;obtain ⟨b1,b2,b3,b4,b5,_,b7,_⟩:=hG.bounds;have h1:=fun o:Obj=>h.ref.frame ((Fr.refl w (fun _=>False)).alloc o) (fun _ _=>id)
 rcases j6 (af b) S.R.T with ⟨hx,hfi2⟩ | ⟨p,hp,hx,hfi2,_⟩
 ·rw [hfi2] at hfi;cases hfi
 rw [hfi2] at hfi;cases hfi
 obtain ⟨g,cap,htv',hcap,hglt,t0,t1,t2,t3,t4,t5⟩:=iq h.ref p hp;rw [htv'] at hct;clear htv';rw [hst] at t1;have k1:(c.kind==1)=true:=by simpa using hk
 have kl:1<=c.kind:=by omega
 have kh:c.kind<=11:=by omega
 have HK:Hid (c.kind=1):=hk;have hcells:c.cells av tv=#[.int .i64 c.kind,av,tv,.int .i64 c.ty,.int .i64 c.bits,.int .i64 c.count,.int .i64 c.rights,.int .i64 c.badge,.int .i64 c.value,.int .i64 c.offset]:=rfl;rw [hcells];clear hcells;have hz9:w.frozen? ⟨kb,1029,none⟩=false:=h.ref.fz _;have hz0:w.frozen? ⟨kb,1030,none⟩=false:=h.ref.fz _;have hb9:=h.ref.cb;have hb0:=h.ref.cs;obtain ⟨bA,bcap,hbve,hbcap,_⟩:=id hbv;have HBV:Hid (bv=.slice bA bs.length bcap):=hbve;have HD:Hid (y=pj (ao cg df F0 S bs) S.R.T[p].root c):=by
  show _=_;rw [<- HYG.out];exact ae7 hfi2 hst (by omega)
 clear HYG hbve hk;rw [HBV.out];go_enter Tryz.func48,Tryz.ntmps48
 go_wp2_with fail
 refine (ek S.R.T kb V.tv b _ (by omega) (h1 _).ct (h1 _).ltt).mono ?_;rintro e w1 ⟨rfl,rfl⟩;unfold thI;rw [hx];go_wp2_with fail
 have h2:aj (((w.setCell ⟨kb,1029,none⟩ (.slice bA bs.length bcap)).setCell ⟨kb,1030,none⟩ (.bool false)).alloc (Obj.cells #[.int .i64 c.kind,av,tv,.int .i64 c.ty,.int .i64 c.bits,.int .i64 c.count,.int .i64 c.rights,.int .i64 c.badge,.int .i64 c.value,.int .i64 c.offset] 41)) kb S.R {V with bv:=.slice bA bs.length bcap,sv:=.bool false}:=(h.ref.setBS (.slice bA bs.length bcap) (.bool false)).frame ((Fr.refl _ (fun _=>False)).alloc _) (fun _ _=>id);have hf2:Fr w (((w.setCell ⟨kb,1029,none⟩ (.slice bA bs.length bcap)).setCell ⟨kb,1030,none⟩ (.bool false)).alloc (Obj.cells #[.int .i64 c.kind,av,tv,.int .i64 c.ty,.int .i64 c.bits,.int .i64 c.count,.int .i64 c.rights,.int .i64 c.badge,.int .i64 c.value,.int .i64 c.offset] 41)) (fun k=>k=kb):=(((Fr.refl w (fun k=>k=kb)).setCell (.inl rfl) _ _).setCell (.inl rfl) _ _).alloc _;have hba:=heap_alloc_new ((w.setCell ⟨kb,1029,none⟩ (.slice bA bs.length bcap)).setCell ⟨kb,1030,none⟩ (.bool false)) (Obj.cells #[.int .i64 c.kind,av,tv,.int .i64 c.ty,.int .i64 c.bits,.int .i64 c.count,.int .i64 c.rights,.int .i64 c.badge,.int .i64 c.value,.int .i64 c.offset] 41);rw [bu,bu] at hba;generalize ((w.setCell ⟨kb,1029,none⟩ (.slice bA bs.length bcap)).setCell ⟨kb,1030,none⟩ (.bool false)).alloc (Obj.cells #[.int .i64 c.kind,av,tv,.int .i64 c.ty,.int .i64 c.bits,.int .i64 c.count,.int .i64 c.rights,.int .i64 c.badge,.int .i64 c.value,.int .i64 c.offset] 41)=W2 at *
 have hV2:wh V {V with bv:=.slice bA bs.length bcap,sv:=.bool false}:=⟨rfl,rfl,rfl,rfl,rfl⟩;have hRD2:RD W2 kb S {V with bv:=.slice bA bs.length bcap,sv:=.bool false}:=⟨h2,h.ws,hf2.owns h.d (fun k hk e=>h.dk k hk (.inl e)),h.dk,hf2.owns h.q (fun k hk e=>(h.qk k hk).1 (.inl e)),h.qk⟩
 have hRB2:RB W2 kb S {V with bv:=.slice bA bs.length bcap,sv:=.bool false} bs:=by
  refine ⟨hRD2,?_,rfl,fun g' hg' h0=>?_⟩
  ·show eo W2 (.slice bA bs.length bcap) bs;rw [<- HBV.out];exact hbv.frame hf2 (fun g' hg' h0 e=>(hdb g' hg' h0).1 (.inl (.inl e)))
  ·have hg2:bv.ownBlock=some g':=by rw [HBV.out];exact hg'
   exact ⟨(hdb g' hg2 h0).1,Nat.lt_of_lt_of_le (hdb g' hg2 h0).2 hf2.size⟩
 have hO2:fh w kb V S {V with bv:=.slice bA bs.length bcap,sv:=.bool false} W2:=⟨hRD2,hf2.mono (fun k hk=>.inl (.inl hk)),fun k hk=>.inl hk⟩
 have hsw2:w.heap.size<W2.heap.size:=(Array.getElem?_eq_some_iff.1 hba).1;refine (uc S _ kb bs W2 hRB2 hG).mono ?_;rintro e W3 ⟨rfl,⟨V3,hO3,hRB3⟩⟩;have hGw:=hG.work F0 bs;generalize ao cg df F0 S bs=z at HD hO3 hRB3 hGw ⊢;obtain ⟨S1,bs1,go⟩:=z;have hOw:=hO2.trans hO3;cases go with
 | false=>
  go_wp2;go_ret2;rw [HD.out];exact ⟨rfl,V3,hOw⟩
 | true=>
  have hRB4:=hRB3 rfl;have hav3:=hav.fr' hOw.fr hda;have htv3:=htv.fr' hOw.fr hdt;have hnofq:¬V.fq kb w.heap.size:=fun e=>by have:=h.fqLt e;omega
  have hba3:=hO3.fr.same hba (fun e=>hnofq e);obtain ⟨c1,c2,c3,c4,c5,_,c7,_⟩:=hGw.bounds;obtain ⟨hRo,hEnt⟩:=hGw.ent;simp only at c1 c2 c3 c4 c5 c7 hRo hEnt;have hk00:W3.cell? ⟨w.heap.size,0,none⟩=some (.int .i64 c.kind):=aa hba3 rfl;have hk01:W3.cell? ⟨w.heap.size,1,none⟩=some av:=aa (o:=1) hba3 rfl;clear hRB3 hO3 hO2 hRB2 hRD2 hV2 h2 hf2 hba h1 hG b1 b2 b3 b4 b5 b7 hbv hdb HBV hb9 hb0 hz9 hz0 hda hdt hav htv;go_wp2_with fail
  refine (af1 S1.R.N kb V3.nv S.R.T[p].root _ (by omega) hRB4.rd.ref.cn hRB4.rd.ref.lnn).mono ?_;rintro e W2' ⟨rfl,rfl⟩;go_wp2_with fail
  refine (mb S1.R.L S1.R.N kb V3.lv V3.nv av (fx S1.R.N S.R.T[p].root) c.at_ _ (by omega) (by omega) hal hRB4.rd.ref.cl hRB4.rd.ref.ll hRB4.rd.ref.cn hRB4.rd.ref.lnn hRo.b hav3).mono ?_;rintro e w3 ⟨rfl,q,rfl⟩;cases hf:bk S1.R.L S1.R.N (fx S1.R.N S.R.T[p].root) c.at_ with
  | none=>
   have HD2:Hid (y=(2,S1)):=by show _=_;rw [HD.out];unfold pj;simp only [hf];rfl
   dsimp only [ts];clear HD hf;go_wp2;go_ret2;rw [HD2.out];exact ⟨rfl,V3,hOw.drewN q⟩
  | some ni=>
   obtain ⟨n,ix⟩:=ni;dsimp only [ts];go_wp2_with fail
   have hRB5:=hRB4.drewN q;have hOw5:=hOw.drewN q;refine (jj S1.R.L kb V3.lv n ix _ (by omega) hRB5.rd.ref.cl hRB5.rd.ref.ll).mono ?_;rintro e w4 ⟨rfl,rfl⟩;have hba5:(W2'.drewN q).heap[w.heap.size]?=_:=hba3;have htv5:ay (W2'.drewN q) tv c.to:=htv3;generalize W2'.drewN q=W5 at *
   obtain ⟨kk0,kk1,kk2,kk3,kk4,kk5,kk6,kk7,kk8,kk9⟩:=w_ hba5;have hsw:w.heap.size<W5.heap.size:=(Array.getElem?_eq_some_iff.1 hba5).1;have hkw:kb<W5.heap.size:=by omega
   cases hidx:S1.R.L.findIdx? (ee n ix) with
   | none=>
    have HX:Hid (atI S1.R.L n ix=-1):=by show _=_;unfold atI;rw [hidx];rfl
    have HD2:Hid (y=(3,S1)):=by show _=_;rw [HD.out];unfold pj;simp only [hf,hidx,HK.out];rfl
    rw [HX.out];clear HD hf hidx;go_wp2_with fail
    go_must (refine (a35 kb (fx S1.R.N S.R.T[p].root) c av tv _).mono ?_)
    rintro e W6 ⟨rfl,hf6⟩;have hf7:Fr W5 W6 (fun _=>False):=((Fr.refl W5 (fun _=>False)).alloc _).step hf6 (fun _=>False.elim);clear hf6;go_wp2;go_ret2;rw [HD2.out];exact ⟨rfl,V3,hOw5.rd.frame hf7 (fun _ _=>id),hOw5.fr.step hf7 (fun _=>False.elim),hOw5.new⟩
   | some p2=>
    obtain ⟨hp2,_⟩:=List.findIdx?_eq_some_iff_getElem.1 hidx;have HX:Hid (atI S1.R.L n ix=(p2:Int)):=by show _=_;unfold atI;rw [hidx];rfl
    have HD2:Hid (y=j0 S1 (fx S1.R.N S.R.T[p].root) c p2 S1.R.L[p2] bs1):=by show _=_;rw [HD.out];unfold pj;simp only [hf,hidx,List.getElem?_eq_getElem hp2,HK.out];rfl
    rw [HX.out];obtain ⟨g2,cap2,hlv2,hcap2,hglt2,d0,d1,d2,d3,d4,d5,d6,d7,d8⟩:=fe hRB5.rd.ref p2 hp2;have hc3:=hRB5.rd.ref.cl;rw [hlv2] at hc3;clear hlv2;obtain ⟨hu0,hu1⟩:=c5 p2 hp2;obtain ⟨x0,x1,x2,x3,x4⟩:=hEnt p2 hp2;have hN1:0<S1.R.N.length:=by
     have:=an3 hf;cases hNN:S1.R.N with
     | nil=>rw [hNN] at this;simp [bf] at this;omega
     | cons _ _=>simp
    clear HD hf hidx;go_wp2_with fail
    go_must (refine (a74 S1.R S1.D S1.ws S1.q V3 kb (fx S1.R.N S.R.T[p].root) c av tv p2 bs1 _ (hRB5.after ⟨hRB5.rd.frame ((Fr.refl W5 (fun _=>False)).alloc (.cells #[.int .i64 S1.R.L[p2].ty,.int .i64 S1.R.L[p2].base,.int .i64 S1.R.L[p2].bits,.int .i64 S1.R.L[p2].rights,.int .i64 S1.R.L[p2].badge,.int .i64 S1.R.L[p2].mark] 46)) (fun _ _=>id),(Fr.refl _ _).alloc _,fun _ hk=>.inl hk⟩ rfl rfl) c1 c2 c3 hRo.b hp2 hl hN1 hu0 hu1 (htv5.fr ((Fr.refl W5 (fun _=>False)).alloc _) (fun _ _=>id)) x0 x1 x2 x3 x4).mono ?_)
    rintro e6 W6 ⟨rfl,V6,hO6⟩;go_wp2;go_ret2;rw [HD2.out];exact ⟨rfl,V6,fh.trans ⟨hOw5.rd.frame ((Fr.refl W5 (fun _=>False)).alloc _) (fun _ _=>id),hOw5.fr.alloc _,hOw5.new⟩ hO6⟩
theorem b59 (S:RS)(V:ax)(kb:Nat)(b:Int)(c:Cl)(av tv bv:Value)(bs:List Bool)(t:ej)(w:World)(h:RD w kb S V)(hG:j2 S)
 (hal:c.at_.length<=9000000000000000000) (_:c.to.length<=9000000000000000000) (hav:ay w av c.at_) (htv:ay w tv c.to) (hbv:eo w bv bs)
 (hda:0<c.at_.length->∀k,av.ownBlock=some k->¬V.fq kb k) (hdt:0<c.to.length->∀k,tv.ownBlock=some k->¬V.fq kb k) (hdb:∀g,bv.ownBlock=some g->0<bs.length->¬V.fq kb g/\g<w.heap.size)
 (hk:c.kind=5) (hfi:S.R.T.find? (af b)=some t) (hst:t.state=1) :
 Calls Tryz.prog 48 #[.pointer (some ⟨kb,0,none⟩),.int .i64 b,.agg (c.cells av tv),bv] w (av4 w kb V (p_ S b c bs)):=by
 generalize hyy:p_ S b c bs=y;have HYG:Hid (p_ S b c bs=y):=hyy;clear hyy;have hct:=h.ref.ct;have hklt:kb<w.heap.size:=World.block_lt_of_cell? w _ hct;obtain ⟨b1,b2,b3,b4,b5,_,b7,_⟩:=hG.bounds;have h1:=fun o:Obj=>h.ref.frame ((Fr.refl w (fun _=>False)).alloc o) (fun _ _=>id)
 rcases j6 (af b) S.R.T with ⟨hx,hfi2⟩ | ⟨p,hp,hx,hfi2,_⟩
 ·rw [hfi2] at hfi;cases hfi
 rw [hfi2] at hfi;cases hfi
 obtain ⟨g,cap,htv',hcap,hglt,t0,t1,t2,t3,t4,t5⟩:=iq h.ref p hp;rw [htv'] at hct;clear htv';rw [hst] at t1;have k1:(c.kind==1)=false:=by simp;omega
 have k5:(c.kind==5)=true:=by simpa using hk
 have kl:1<=c.kind:=by omega
 have kh:c.kind<=11:=by omega
 have HK:Hid (c.kind=5):=hk;have hcells:c.cells av tv=#[.int .i64 c.kind,av,tv,.int .i64 c.ty,.int .i64 c.bits,.int .i64 c.count,.int .i64 c.rights,.int .i64 c.badge,.int .i64 c.value,.int .i64 c.offset]:=rfl;rw [hcells];clear hcells;have hz9:w.frozen? ⟨kb,1029,none⟩=false:=h.ref.fz _;have hz0:w.frozen? ⟨kb,1030,none⟩=false:=h.ref.fz _;have hb9:=h.ref.cb;have hb0:=h.ref.cs;obtain ⟨bA,bcap,hbve,hbcap,_⟩:=id hbv;have HBV:Hid (bv=.slice bA bs.length bcap):=hbve;have HD:Hid (y=pj (ao cg df F0 S bs) S.R.T[p].root c):=by
  show _=_;rw [<- HYG.out];exact ae7 hfi2 hst (by omega)
 clear HYG hbve hk;rw [HBV.out];go_enter Tryz.func48,Tryz.ntmps48
 go_wp2_with fail
 refine (ek S.R.T kb V.tv b _ (by omega) (h1 _).ct (h1 _).ltt).mono ?_;rintro e w1 ⟨rfl,rfl⟩;unfold thI;rw [hx];go_wp2_with fail
 have h2:aj (((w.setCell ⟨kb,1029,none⟩ (.slice bA bs.length bcap)).setCell ⟨kb,1030,none⟩ (.bool false)).alloc (Obj.cells #[.int .i64 c.kind,av,tv,.int .i64 c.ty,.int .i64 c.bits,.int .i64 c.count,.int .i64 c.rights,.int .i64 c.badge,.int .i64 c.value,.int .i64 c.offset] 41)) kb S.R {V with bv:=.slice bA bs.length bcap,sv:=.bool false}:=(h.ref.setBS (.slice bA bs.length bcap) (.bool false)).frame ((Fr.refl _ (fun _=>False)).alloc _) (fun _ _=>id);have hf2:Fr w (((w.setCell ⟨kb,1029,none⟩ (.slice bA bs.length bcap)).setCell ⟨kb,1030,none⟩ (.bool false)).alloc (Obj.cells #[.int .i64 c.kind,av,tv,.int .i64 c.ty,.int .i64 c.bits,.int .i64 c.count,.int .i64 c.rights,.int .i64 c.badge,.int .i64 c.value,.int .i64 c.offset] 41)) (fun k=>k=kb):=(((Fr.refl w (fun k=>k=kb)).setCell (.inl rfl) _ _).setCell (.inl rfl) _ _).alloc _;have hba:=heap_alloc_new ((w.setCell ⟨kb,1029,none⟩ (.slice bA bs.length bcap)).setCell ⟨kb,1030,none⟩ (.bool false)) (Obj.cells #[.int .i64 c.kind,av,tv,.int .i64 c.ty,.int .i64 c.bits,.int .i64 c.count,.int .i64 c.rights,.int .i64 c.badge,.int .i64 c.value,.int .i64 c.offset] 41);rw [bu,bu] at hba;generalize ((w.setCell ⟨kb,1029,none⟩ (.slice bA bs.length bcap)).setCell ⟨kb,1030,none⟩ (.bool false)).alloc (Obj.cells #[.int .i64 c.kind,av,tv,.int .i64 c.ty,.int .i64 c.bits,.int .i64 c.count,.int .i64 c.rights,.int .i64 c.badge,.int .i64 c.value,.int .i64 c.offset] 41)=W2 at *
 have hV2:wh V {V with bv:=.slice bA bs.length bcap,sv:=.bool false}:=⟨rfl,rfl,rfl,rfl,rfl⟩;have hRD2:RD W2 kb S {V with bv:=.slice bA bs.length bcap,sv:=.bool false}:=⟨h2,h.ws,hf2.owns h.d (fun k hk e=>h.dk k hk (.inl e)),h.dk,hf2.owns h.q (fun k hk e=>(h.qk k hk).1 (.inl e)),h.qk⟩
 have hRB2:RB W2 kb S {V with bv:=.slice bA bs.length bcap,sv:=.bool false} bs:=by
  refine ⟨hRD2,?_,rfl,fun g' hg' h0=>?_⟩
  ·show eo W2 (.slice bA bs.length bcap) bs;rw [<- HBV.out];exact hbv.frame hf2 (fun g' hg' h0 e=>(hdb g' hg' h0).1 (.inl (.inl e)))
  ·have hg2:bv.ownBlock=some g':=by rw [HBV.out];exact hg'
   exact ⟨(hdb g' hg2 h0).1,Nat.lt_of_lt_of_le (hdb g' hg2 h0).2 hf2.size⟩
 have hO2:fh w kb V S {V with bv:=.slice bA bs.length bcap,sv:=.bool false} W2:=⟨hRD2,hf2.mono (fun k hk=>.inl (.inl hk)),fun k hk=>.inl hk⟩
 have hsw2:w.heap.size<W2.heap.size:=(Array.getElem?_eq_some_iff.1 hba).1;refine (uc S _ kb bs W2 hRB2 hG).mono ?_;rintro e W3 ⟨rfl,⟨V3,hO3,hRB3⟩⟩;have hGw:=hG.work F0 bs;generalize ao cg df F0 S bs=z at HD hO3 hRB3 hGw ⊢;obtain ⟨S1,bs1,go⟩:=z;have hOw:=hO2.trans hO3;cases go with
 | false=>
  go_wp2;go_ret2;rw [HD.out];exact ⟨rfl,V3,hOw⟩
 | true=>
  have hRB4:=hRB3 rfl;have hav3:=hav.fr' hOw.fr hda;have htv3:=htv.fr' hOw.fr hdt;have hnofq:¬V.fq kb w.heap.size:=fun e=>by have:=h.fqLt e;omega
  have hba3:=hO3.fr.same hba (fun e=>hnofq e);obtain ⟨c1,c2,c3,c4,c5,_,c7,_⟩:=hGw.bounds;obtain ⟨hRo,hEnt⟩:=hGw.ent;simp only at c1 c2 c3 c4 c5 c7 hRo hEnt;have hk00:W3.cell? ⟨w.heap.size,0,none⟩=some (.int .i64 c.kind):=aa hba3 rfl;have hk01:W3.cell? ⟨w.heap.size,1,none⟩=some av:=aa (o:=1) hba3 rfl;clear hRB3 hO3 hO2 hRB2 hRD2 hV2 h2 hf2 hba h1 hG b1 b2 b3 b4 b5 b7 hbv hdb HBV hb9 hb0 hz9 hz0 hda hdt hav htv;go_wp2_with fail
  refine (af1 S1.R.N kb V3.nv S.R.T[p].root _ (by omega) hRB4.rd.ref.cn hRB4.rd.ref.lnn).mono ?_;rintro e W2' ⟨rfl,rfl⟩;go_wp2_with fail
  refine (mb S1.R.L S1.R.N kb V3.lv V3.nv av (fx S1.R.N S.R.T[p].root) c.at_ _ (by omega) (by omega) hal hRB4.rd.ref.cl hRB4.rd.ref.ll hRB4.rd.ref.cn hRB4.rd.ref.lnn hRo.b hav3).mono ?_;rintro e w3 ⟨rfl,q,rfl⟩;cases hf:bk S1.R.L S1.R.N (fx S1.R.N S.R.T[p].root) c.at_ with
  | none=>
   have HD2:Hid (y=(2,S1)):=by show _=_;rw [HD.out];unfold pj;simp only [hf];rfl
   dsimp only [ts];clear HD hf;go_wp2;go_ret2;rw [HD2.out];exact ⟨rfl,V3,hOw.drewN q⟩
  | some ni=>
   obtain ⟨n,ix⟩:=ni;dsimp only [ts];go_wp2_with fail
   have hRB5:=hRB4.drewN q;have hOw5:=hOw.drewN q;refine (jj S1.R.L kb V3.lv n ix _ (by omega) hRB5.rd.ref.cl hRB5.rd.ref.ll).mono ?_;rintro e w4 ⟨rfl,rfl⟩;have hba5:(W2'.drewN q).heap[w.heap.size]?=_:=hba3;have htv5:ay (W2'.drewN q) tv c.to:=htv3;generalize W2'.drewN q=W5 at *
   obtain ⟨kk0,kk1,kk2,kk3,kk4,kk5,kk6,kk7,kk8,kk9⟩:=w_ hba5;have hsw:w.heap.size<W5.heap.size:=(Array.getElem?_eq_some_iff.1 hba5).1;have hkw:kb<W5.heap.size:=by omega
   cases hidx:S1.R.L.findIdx? (ee n ix) with
   | none=>
    have HX:Hid (atI S1.R.L n ix=-1):=by show _=_;unfold atI;rw [hidx];rfl
    have HD2:Hid (y=(4,S1)):=by show _=_;rw [HD.out];unfold pj;simp only [hf,hidx,HK.out];rfl
    rw [HX.out];clear HD hf hidx;go_wp2;go_ret2;rw [HD2.out];exact ⟨rfl,V3,hOw5.rd.frame ((Fr.refl _ (fun _=>False)).alloc _) (fun _ _=>id),hOw5.fr.alloc _,hOw5.new⟩
   | some p2=>
    obtain ⟨hp2,_⟩:=List.findIdx?_eq_some_iff_getElem.1 hidx;have HX:Hid (atI S1.R.L n ix=(p2:Int)):=by show _=_;unfold atI;rw [hidx];rfl
    have HD2:Hid (y=((takeB S1 p2 S1.R.L[p2] bs1).1,(takeB S1 p2 S1.R.L[p2] bs1).2.1)):=by show _=_;rw [HD.out];unfold pj;simp only [hf,hidx,List.getElem?_eq_getElem hp2,HK.out];rfl
    rw [HX.out];obtain ⟨g2,cap2,hlv2,hcap2,hglt2,d0,d1,d2,d3,d4,d5,d6,d7,d8⟩:=fe hRB5.rd.ref p2 hp2;have hc3:=hRB5.rd.ref.cl;rw [hlv2] at hc3;clear hlv2;clear HD hf hidx;go_wp2_with fail
    have HRBX:=hRB5.after ⟨hRB5.rd.frame ((Fr.refl W5 (fun _=>False)).alloc (.cells #[.int .i64 S1.R.L[p2].ty,.int .i64 S1.R.L[p2].base,.int .i64 S1.R.L[p2].bits,.int .i64 S1.R.L[p2].rights,.int .i64 S1.R.L[p2].badge,.int .i64 S1.R.L[p2].mark] 46)) (fun _ _=>id),(Fr.refl _ _).alloc _,fun _ hk=>.inl hk⟩ rfl rfl
    go_must (refine (a30 S1 V3 kb p2 bs1 _ HRBX hGw hp2).mono ?_)
    rintro e6 W6 ⟨rfl,⟨V6,hO6,_⟩⟩;go_wp2;go_ret2;rw [HD2.out];exact ⟨rfl,V6,fh.trans ⟨hOw5.rd.frame ((Fr.refl W5 (fun _=>False)).alloc _) (fun _ _=>id),hOw5.fr.alloc _,hOw5.new⟩ hO6⟩
theorem b56 (S:RS)(V:ax)(kb:Nat)(b:Int)(c:Cl)(av tv bv:Value)(bs:List Bool)(t:ej)(w:World)(h:RD w kb S V)(hG:j2 S)
 (hal:c.at_.length<=9000000000000000000) (_:c.to.length<=9000000000000000000) (hav:ay w av c.at_) (htv:ay w tv c.to) (hbv:eo w bv bs)
 (hda:0<c.at_.length->∀k,av.ownBlock=some k->¬V.fq kb k) (hdt:0<c.to.length->∀k,tv.ownBlock=some k->¬V.fq kb k) (hdb:∀g,bv.ownBlock=some g->0<bs.length->¬V.fq kb g/\g<w.heap.size)
 (hk:c.kind=6) (hfi:S.R.T.find? (af b)=some t) (hst:t.state=1) :
 Calls Tryz.prog 48 #[.pointer (some ⟨kb,0,none⟩),.int .i64 b,.agg (c.cells av tv),bv] w (av4 w kb V (p_ S b c bs)):=by
 generalize hyy:p_ S b c bs=y;have HYG:Hid (p_ S b c bs=y):=hyy;clear hyy;have hct:=h.ref.ct;have hklt:kb<w.heap.size:=World.block_lt_of_cell? w _ hct;obtain ⟨b1,b2,b3,b4,b5,_,b7,_⟩:=hG.bounds;have h1:=fun o:Obj=>h.ref.frame ((Fr.refl w (fun _=>False)).alloc o) (fun _ _=>id)
 rcases j6 (af b) S.R.T with ⟨hx,hfi2⟩ | ⟨p,hp,hx,hfi2,_⟩
 ·rw [hfi2] at hfi;cases hfi
 rw [hfi2] at hfi;cases hfi
 obtain ⟨g,cap,htv',hcap,hglt,t0,t1,t2,t3,t4,t5⟩:=iq h.ref p hp;rw [htv'] at hct;clear htv';rw [hst] at t1;have k1:(c.kind==1)=false:=by simp;omega
 have k5:(c.kind==5)=false:=by simp;omega
 have k6:(c.kind==6)=true:=by simpa using hk
 have kl:1<=c.kind:=by omega
 have kh:c.kind<=11:=by omega
 have HK:Hid (c.kind=6):=hk;have hcells:c.cells av tv=#[.int .i64 c.kind,av,tv,.int .i64 c.ty,.int .i64 c.bits,.int .i64 c.count,.int .i64 c.rights,.int .i64 c.badge,.int .i64 c.value,.int .i64 c.offset]:=rfl;rw [hcells];clear hcells;have hz9:w.frozen? ⟨kb,1029,none⟩=false:=h.ref.fz _;have hz0:w.frozen? ⟨kb,1030,none⟩=false:=h.ref.fz _;have hb9:=h.ref.cb;have hb0:=h.ref.cs;obtain ⟨bA,bcap,hbve,hbcap,_⟩:=id hbv;have HBV:Hid (bv=.slice bA bs.length bcap):=hbve;have HD:Hid (y=pj (ao cg df F0 S bs) S.R.T[p].root c):=by
  show _=_;rw [<- HYG.out];exact ae7 hfi2 hst (by omega)
 clear HYG hbve hk;rw [HBV.out];go_enter Tryz.func48,Tryz.ntmps48
 go_wp2_with fail
 refine (ek S.R.T kb V.tv b _ (by omega) (h1 _).ct (h1 _).ltt).mono ?_;rintro e w1 ⟨rfl,rfl⟩;unfold thI;rw [hx];go_wp2_with fail
 have h2:aj (((w.setCell ⟨kb,1029,none⟩ (.slice bA bs.length bcap)).setCell ⟨kb,1030,none⟩ (.bool false)).alloc (Obj.cells #[.int .i64 c.kind,av,tv,.int .i64 c.ty,.int .i64 c.bits,.int .i64 c.count,.int .i64 c.rights,.int .i64 c.badge,.int .i64 c.value,.int .i64 c.offset] 41)) kb S.R {V with bv:=.slice bA bs.length bcap,sv:=.bool false}:=(h.ref.setBS (.slice bA bs.length bcap) (.bool false)).frame ((Fr.refl _ (fun _=>False)).alloc _) (fun _ _=>id);have hf2:Fr w (((w.setCell ⟨kb,1029,none⟩ (.slice bA bs.length bcap)).setCell ⟨kb,1030,none⟩ (.bool false)).alloc (Obj.cells #[.int .i64 c.kind,av,tv,.int .i64 c.ty,.int .i64 c.bits,.int .i64 c.count,.int .i64 c.rights,.int .i64 c.badge,.int .i64 c.value,.int .i64 c.offset] 41)) (fun k=>k=kb):=(((Fr.refl w (fun k=>k=kb)).setCell (.inl rfl) _ _).setCell (.inl rfl) _ _).alloc _;have hba:=heap_alloc_new ((w.setCell ⟨kb,1029,none⟩ (.slice bA bs.length bcap)).setCell ⟨kb,1030,none⟩ (.bool false)) (Obj.cells #[.int .i64 c.kind,av,tv,.int .i64 c.ty,.int .i64 c.bits,.int .i64 c.count,.int .i64 c.rights,.int .i64 c.badge,.int .i64 c.value,.int .i64 c.offset] 41);rw [bu,bu] at hba;generalize ((w.setCell ⟨kb,1029,none⟩ (.slice bA bs.length bcap)).setCell ⟨kb,1030,none⟩ (.bool false)).alloc (Obj.cells #[.int .i64 c.kind,av,tv,.int .i64 c.ty,.int .i64 c.bits,.int .i64 c.count,.int .i64 c.rights,.int .i64 c.badge,.int .i64 c.value,.int .i64 c.offset] 41)=W2 at *
 have hV2:wh V {V with bv:=.slice bA bs.length bcap,sv:=.bool false}:=⟨rfl,rfl,rfl,rfl,rfl⟩;have hRD2:RD W2 kb S {V with bv:=.slice bA bs.length bcap,sv:=.bool false}:=⟨h2,h.ws,hf2.owns h.d (fun k hk e=>h.dk k hk (.inl e)),h.dk,hf2.owns h.q (fun k hk e=>(h.qk k hk).1 (.inl e)),h.qk⟩
 have hRB2:RB W2 kb S {V with bv:=.slice bA bs.length bcap,sv:=.bool false} bs:=by
  refine ⟨hRD2,?_,rfl,fun g' hg' h0=>?_⟩
  ·show eo W2 (.slice bA bs.length bcap) bs;rw [<- HBV.out];exact hbv.frame hf2 (fun g' hg' h0 e=>(hdb g' hg' h0).1 (.inl (.inl e)))
  ·have hg2:bv.ownBlock=some g':=by rw [HBV.out];exact hg'
   exact ⟨(hdb g' hg2 h0).1,Nat.lt_of_lt_of_le (hdb g' hg2 h0).2 hf2.size⟩
 have hO2:fh w kb V S {V with bv:=.slice bA bs.length bcap,sv:=.bool false} W2:=⟨hRD2,hf2.mono (fun k hk=>.inl (.inl hk)),fun k hk=>.inl hk⟩
 have hsw2:w.heap.size<W2.heap.size:=(Array.getElem?_eq_some_iff.1 hba).1;refine (uc S _ kb bs W2 hRB2 hG).mono ?_;rintro e W3 ⟨rfl,⟨V3,hO3,hRB3⟩⟩;have hGw:=hG.work F0 bs;generalize ao cg df F0 S bs=z at HD hO3 hRB3 hGw ⊢;obtain ⟨S1,bs1,go⟩:=z;have hOw:=hO2.trans hO3;cases go with
 | false=>
  go_wp2;go_ret2;rw [HD.out];exact ⟨rfl,V3,hOw⟩
 | true=>
  have hRB4:=hRB3 rfl;have hav3:=hav.fr' hOw.fr hda;have htv3:=htv.fr' hOw.fr hdt;have hnofq:¬V.fq kb w.heap.size:=fun e=>by have:=h.fqLt e;omega
  have hba3:=hO3.fr.same hba (fun e=>hnofq e);obtain ⟨c1,c2,c3,c4,c5,_,c7,_⟩:=hGw.bounds;obtain ⟨hRo,hEnt⟩:=hGw.ent;simp only at c1 c2 c3 c4 c5 c7 hRo hEnt;have hk00:W3.cell? ⟨w.heap.size,0,none⟩=some (.int .i64 c.kind):=aa hba3 rfl;have hk01:W3.cell? ⟨w.heap.size,1,none⟩=some av:=aa (o:=1) hba3 rfl;clear hRB3 hO3 hO2 hRB2 hRD2 hV2 h2 hf2 hba h1 hG b1 b2 b3 b4 b5 b7 hbv hdb HBV hb9 hb0 hz9 hz0 hda hdt hav htv;go_wp2_with fail
  refine (af1 S1.R.N kb V3.nv S.R.T[p].root _ (by omega) hRB4.rd.ref.cn hRB4.rd.ref.lnn).mono ?_;rintro e W2' ⟨rfl,rfl⟩;go_wp2_with fail
  refine (mb S1.R.L S1.R.N kb V3.lv V3.nv av (fx S1.R.N S.R.T[p].root) c.at_ _ (by omega) (by omega) hal hRB4.rd.ref.cl hRB4.rd.ref.ll hRB4.rd.ref.cn hRB4.rd.ref.lnn hRo.b hav3).mono ?_;rintro e w3 ⟨rfl,q,rfl⟩;cases hf:bk S1.R.L S1.R.N (fx S1.R.N S.R.T[p].root) c.at_ with
  | none=>
   have HD2:Hid (y=(2,S1)):=by show _=_;rw [HD.out];unfold pj;simp only [hf];rfl
   dsimp only [ts];clear HD hf;go_wp2;go_ret2;rw [HD2.out];exact ⟨rfl,V3,hOw.drewN q⟩
  | some ni=>
   obtain ⟨n,ix⟩:=ni;dsimp only [ts];go_wp2_with fail
   have hRB5:=hRB4.drewN q;have hOw5:=hOw.drewN q;refine (jj S1.R.L kb V3.lv n ix _ (by omega) hRB5.rd.ref.cl hRB5.rd.ref.ll).mono ?_;rintro e w4 ⟨rfl,rfl⟩;have hba5:(W2'.drewN q).heap[w.heap.size]?=_:=hba3;have htv5:ay (W2'.drewN q) tv c.to:=htv3;generalize W2'.drewN q=W5 at *
   obtain ⟨kk0,kk1,kk2,kk3,kk4,kk5,kk6,kk7,kk8,kk9⟩:=w_ hba5;have hsw:w.heap.size<W5.heap.size:=(Array.getElem?_eq_some_iff.1 hba5).1;have hkw:kb<W5.heap.size:=by omega
   cases hidx:S1.R.L.findIdx? (ee n ix) with
   | none=>
    have HX:Hid (atI S1.R.L n ix=-1):=by show _=_;unfold atI;rw [hidx];rfl
    have HD2:Hid (y=(4,S1)):=by show _=_;rw [HD.out];unfold pj;simp only [hf,hidx,HK.out];rfl
    rw [HX.out];clear HD hf hidx;go_wp2;go_ret2;rw [HD2.out];exact ⟨rfl,V3,hOw5.rd.frame ((Fr.refl _ (fun _=>False)).alloc _) (fun _ _=>id),hOw5.fr.alloc _,hOw5.new⟩
   | some p2=>
    obtain ⟨hp2,_⟩:=List.findIdx?_eq_some_iff_getElem.1 hidx;have HX:Hid (atI S1.R.L n ix=(p2:Int)):=by show _=_;unfold atI;rw [hidx];rfl
    have HD2:Hid (y=((ew F1 S1 n ix bs1).1,(ew F1 S1 n ix bs1).2.1)):=by show _=_;rw [HD.out];unfold pj;simp only [hf,hidx,List.getElem?_eq_getElem hp2,HK.out];rfl
    rw [HX.out];obtain ⟨g2,cap2,hlv2,hcap2,hglt2,d0,d1,d2,d3,d4,d5,d6,d7,d8⟩:=fe hRB5.rd.ref p2 hp2;have hc3:=hRB5.rd.ref.cl;rw [hlv2] at hc3;clear hlv2;clear HD hf hidx;go_wp2_with fail
    have HRBX:=hRB5.after ⟨hRB5.rd.frame ((Fr.refl W5 (fun _=>False)).alloc (.cells #[.int .i64 S1.R.L[p2].ty,.int .i64 S1.R.L[p2].base,.int .i64 S1.R.L[p2].bits,.int .i64 S1.R.L[p2].rights,.int .i64 S1.R.L[p2].badge,.int .i64 S1.R.L[p2].mark] 46)) (fun _ _=>id),(Fr.refl _ _).alloc _,fun _ hk=>.inl hk⟩ rfl rfl
    go_must (refine (bc6 S1 V3 kb n ix bs1 _ HRBX hGw).mono ?_)
    rintro e6 W6 ⟨rfl,⟨V6,hO6,_⟩⟩;go_wp2;go_ret2;rw [HD2.out];exact ⟨rfl,V6,fh.trans ⟨hOw5.rd.frame ((Fr.refl W5 (fun _=>False)).alloc _) (fun _ _=>id),hOw5.fr.alloc _,hOw5.new⟩ hO6⟩
theorem fh.of {w w':World}{kb:Nat}{S:RS}{V V':ax}{R':dq}(h:RD w kb S V)(h1:aj w' kb R' V')(hq:V'.qv=V.qv)(hd:V'.dv=V.dv)(hw:V'.ws=V.ws)(hf:Fr w w' (V.fp kb))(hn:∀k,V'.fp kb k->V.fp kb k\/w.heap.size<=k):
 fh w kb V {S with R:=R'} V' w':=by
 refine ⟨⟨h1,hw.trans h.ws,?_,?_,?_,?_⟩,hf.mono (fun k hk=>.inl hk),?_⟩
 ·rw [hd];exact hf.owns h.d h.dk
 ·intro k hk hfp;rw [hd] at hk;rcases hn k hfp with h2 | h2
  ·exact h.dk k hk h2
  ·have:=h.fqLt (k:=k) (.inr (.inl hk));omega
 ·rw [hq];exact hf.owns h.q (fun k hk=>(h.qk k hk).1)
 ·intro k hk;rw [hq] at hk;refine ⟨fun hfp=>?_,by rw [hd];exact (h.qk k hk).2⟩
  rcases hn k hfp with h2 | h2
  ·exact (h.qk k hk).1 h2
  ·have:=h.fqLt (k:=k) (.inr (.inr hk));omega
 ·rintro k (hk | hk | hk)
  ·exact (hn k hk).imp .inl id
  ·exact .inl (.inr (.inl (by rw [<- hd];exact hk)))
  ·exact .inl (.inr (.inr (by rw [<- hq];exact hk)))
theorem b25 (S:RS)(V:ax)(kb:Nat)(b:Int)(c:Cl)(av tv bv:Value)(bs:List Bool)(w:World)(h:RD w kb S V)(hG:j2 S)
 (hal:c.at_.length<=9000000000000000000) (hl:c.to.length<=9000000000000000000) (hav:ay w av c.at_) (htv:ay w tv c.to) (hbv:eo w bv bs)
 (hda:0<c.at_.length->∀k,av.ownBlock=some k->¬V.fq kb k) (hdt:0<c.to.length->∀k,tv.ownBlock=some k->¬V.fq kb k) (hdb:∀g,bv.ownBlock=some g->0<bs.length->¬V.fq kb g/\g<w.heap.size) (hk:c.kind<=6\/11<c.kind) :
 Calls Tryz.prog 48 #[.pointer (some ⟨kb,0,none⟩),.int .i64 b,.agg (c.cells av tv),bv] w (av4 w kb V (p_ S b c bs)):=by
 obtain ⟨hRo,_⟩:=hG.ent;by_cases hno:∀t,S.R.T.find? (af b)=some t->t.state≠1\/c.kind<1\/11<c.kind
 ·refine (bs4 S.R V kb b c av tv _ w h.ref hRo.o hno).mono ?_;rintro e w' ⟨rfl,V',h1,h2,h3,h4,h5,h6⟩;have hd:p_ S b c bs=((doR S.R b c).1,S)/\(doR S.R b c).2=S.R:=by
   unfold p_ doR;cases hf:S.R.T.find? (af b) with
   | none=>exact ⟨rfl,rfl⟩
   | some t=>
    simp only;by_cases hs:t.state≠1
    ·rw [if_pos hs,if_pos hs];exact ⟨rfl,rfl⟩
    ·rw [if_neg hs,if_neg hs];have hk2:c.kind<1\/11<c.kind:=(hno t hf).resolve_left hs;rw [if_pos hk2,if_pos hk2];exact ⟨rfl,rfl⟩
  rw [hd.1];rw [hd.2] at h1;exact ⟨rfl,V',fh.of h h1 h2 h3 h4 h5 h6⟩
 ·simp only [Classical.not_forall] at hno;obtain ⟨t,ht,hn⟩:=hno;have hst:t.state=1:=by
   rcases Int.lt_trichotomy t.state 1 with e | e | e
   ·exact absurd (.inl (by omega)) hn
   ·exact e
   ·exact absurd (.inl (by omega)) hn
  have hk1:¬c.kind<1:=fun e=>hn (.inr (.inl e))
  have hk2:¬11<c.kind:=fun e=>hn (.inr (.inr e))
  by_cases e1:c.kind=1
  ·exact b57 S V kb b c av tv bv bs t w h hG hal hl hav htv hbv hda hdt hdb e1 ht hst
  ·by_cases e5:c.kind=5
   ·exact b59 S V kb b c av tv bv bs t w h hG hal hl hav htv hbv hda hdt hdb e5 ht hst
   ·by_cases e6:c.kind=6
    ·exact b56 S V kb b c av tv bv bs t w h hG hal hl hav htv hbv hda hdt hdb e6 ht hst
    ·obtain ⟨ba,bcap,rfl,_⟩:=id hbv;refine (bv4 S.R V kb b c av tv ba bs.length bcap t w h.ref hRo hal hl hav htv (fun h0 k hk e=>hda h0 k hk (.inl e)) (fun h0 k hk e=>hdt h0 k hk (.inl e)) (by omega) ht hst).mono ?_
     rintro e w' ⟨rfl,V',h1,h2,h3,h4,h5,h6⟩;have hd:p_ S b c bs=((doR S.R b c).1,{S with R:=(doR S.R b c).2}):=by
      unfold p_ doR;rw [ht];simp only;have n1:¬t.state≠1:=fun e=>e hst
      have n2:¬(c.kind<1\/11<c.kind):=by omega
      have n3:¬(c.kind=1\/c.kind=5\/c.kind=6):=by omega
      simp only [if_neg n1,if_neg n2,if_neg n3,if_neg e1];cases bk S.R.L S.R.N t.root c.at_ with
      | none=>rfl
      | some q=>
       obtain ⟨n,i⟩:=q;simp only;cases S.R.L.findIdx? (ee n i) with
       | none=>rfl
       | some p=>
        simp only;cases S.R.L[p]? with
        | none=>rfl
        | some e=>rfl
     rw [hd];exact ⟨rfl,V',fh.of h h1 h2 h3 h4 h5 h6⟩
end Go.Proofs.YtdpjgflemddekaaGreatDoor

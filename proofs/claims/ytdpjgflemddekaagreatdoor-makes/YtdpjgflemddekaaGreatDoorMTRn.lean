/- The document's answer: Load, Store, Root. -/
import Derived.Test.YtdpjgflemddekaaGreatDoorMTRk
set_option maxRecDepth 100000
set_option maxHeartbeats 4000000
namespace Go.Proofs.YtdpjgflemddekaaGreatDoor
open Go.RowKit
def bh3 (w:World)(kb:Nat)(V:ax)(y:Int×Int×RS)(e':Ending)(w':World):Prop:=
 e'=.returned (.tuple #[.int .i64 y.1,.int .i64 y.2.1])/\∃V',fh w kb V y.2.2 V' w'
theorem pi {P:Program}{f:FuncId}{args:Array Value}{w:World}{n:Nat}{v:Value}(h:Calls P f args (w.drewN n) fun e w'=>e=.returned v/\w'=w.drewN n):Calls P f args (w.drewN n) fun e w'=>e=.returned v/\∃m,w'=w.drewN m:=
 h.mono fun _ _ ⟨a,b⟩=>⟨a,n,b⟩
theorem bw8 (S:RS)(V:ax)(kb:Nat)(c:Cl)(av tv:Value)(e:aw)(w:World)(h:RD w kb S V)(hk:c.kind=9\/c.kind=10)(hr:0<=e.rights/\e.rights<=7)
 (he:e.ty=5->0<=e.base/\e.bits<=20/\e.base+pw e.bits.toNat<=1024) :
 Calls Tryz.prog 88 #[.pointer (some ⟨kb,0,none⟩),.agg (c.cells av tv),zy e] w (bh3 w kb V (lj S c e)):=by
 have stay:∀W1 x,Fr w W1 (fun _=>False)->lj S c e=(0,x,S)->bh3 w kb V (lj S c e) (.returned (.tuple #[.int .i64 0,.int .i64 x])) W1:=by
  intro W1 x hf hy;rw [hy];exact ⟨rfl,V,h.frame hf (fun _ _=>id),hf.mono (fun _=>False.elim),fun k hk=>.inl hk⟩
 rw [Cl.cells_eq];unfold zy;obtain ⟨r2,r1⟩:=ad0 hr;have hK:((c.kind==9)=true/\(c.kind==10)=false/\qc e.rights (if c.kind=10 then 2 else 1)=(e.rights % 2==0))\/((c.kind==9)=false/\(c.kind==10)=true/\qc e.rights (if c.kind=10 then 2 else 1)=(e.rights / 2 % 2==0)):=by
  rcases hk with e | e
  ·left;rw [e];exact ⟨rfl,rfl,r1⟩
  ·right;rw [e];exact ⟨rfl,rfl,r2⟩
 have hkl:kb<w.heap.size:=h.ref.fpLt (.inl rfl);by_cases ht:e.ty≠5
 ·have HY:Hid (lj S c e=(0,3,S)):=by show _=_;unfold lj;rw [if_pos ht]
  have ht':(e.ty != 5)=true:=by simpa using ht
  clear ht hk r1 r2;rcases hK with ⟨k9,k10,_⟩ | ⟨k9,k10,_⟩;all_goals
   go_enter Tryz.func88,Tryz.ntmps88
   go_wp2_with fail
   go_ret2;exact stay _ _ (((Fr.refl _ _).alloc _).alloc _) HY.out
 ·have ht1:e.ty=5:=by omega
  have ht':(e.ty != 5)=false:=by simp [ht1]
  obtain ⟨e0,e1,e2⟩:=he ht1;by_cases hb:qc e.rights (if c.kind=10 then 2 else 1)=true
  ·have HY:Hid (lj S c e=(0,5,S)):=by show _=_;unfold lj;rw [if_neg ht,if_pos hb]
   rw [hb] at hK;clear ht ht1 hk r1 r2 hb;rcases hK with ⟨k9,k10,hx⟩ | ⟨k9,k10,hx⟩;all_goals
    replace hx:=hx.symm;go_enter Tryz.func88,Tryz.ntmps88
    go_wp2_with fail
    go_ret2;exact stay _ _ (((Fr.refl _ _).alloc _).alloc _) HY.out
  ·have hb':qc e.rights (if c.kind=10 then 2 else 1)=false:=by simpa using hb
   rw [hb'] at hK;have HW:Hid (lj S c e=if (c.offset<0\/pw e.bits.toNat<=c.offset)\/(c.kind=10/\(c.value<0\/4294967295<c.value)) then (0,7,S) else if c.kind=9 then (S.ws (e.base+c.offset).toNat,0,S) else (0,0,{S with ws:=qu S.ws (e.base+c.offset).toNat c.value})):=by
    show _=_;unfold lj;rw [if_neg ht,if_neg hb]
   have h10:(c.kind==10)=true->c.kind=10:=fun h=>by simpa using h
   have h9:(c.kind==10)=false->c.kind=9:=fun h=>by simp at h;omega
   clear ht ht1 hk r1 r2 hb hb';by_cases o1:c.offset<0
   ·have HY:Hid (lj S c e=(0,7,S)):=by show _=_;rw [HW.out,if_pos (.inl (.inl o1))]
    have d1:decide (c.offset<0)=true:=by simpa using o1
    clear HW o1 h10 h9;rcases hK with ⟨k9,k10,hx⟩ | ⟨k9,k10,hx⟩;all_goals
     replace hx:=hx.symm;go_enter Tryz.func88,Tryz.ntmps88
     go_wp2_with fail
     go_quiet ((go_at_call 106;exact pi (jg e.bits _ e1)))
     go_wp2_with fail
     go_ret2;exact stay _ _ ((((Fr.refl _ _).alloc _).alloc _).drewN _) HY.out
   have d1:decide (c.offset<0)=false:=by simpa using o1
   by_cases o2:pw e.bits.toNat<=c.offset
   ·have HY:Hid (lj S c e=(0,7,S)):=by show _=_;rw [HW.out,if_pos (.inl (.inr o2))]
    have d2:decide (pw e.bits.toNat<=c.offset)=true:=by simpa using o2
    clear HW o1 o2 h10 h9;rcases hK with ⟨k9,k10,hx⟩ | ⟨k9,k10,hx⟩;all_goals
     replace hx:=hx.symm;go_enter Tryz.func88,Tryz.ntmps88
     go_wp2_with fail
     go_quiet ((go_at_call 106;exact pi (jg e.bits _ e1)))
     go_wp2_with fail
     go_ret2;exact stay _ _ ((((Fr.refl _ _).alloc _).alloc _).drewN _) HY.out
   have d2:decide (pw e.bits.toNat<=c.offset)=false:=by simpa using o2
   have i0:0<=e.base+c.offset:=by omega
   have i1:e.base+c.offset<1024:=by omega
   have hlt:(e.base+c.offset).toNat<1024:=by omega
   obtain ⟨hfa,hbC,hbE⟩:=xi w #[.int .i64 c.kind,av,tv,.int .i64 c.ty,.int .i64 c.bits,.int .i64 c.count,.int .i64 c.rights,.int .i64 c.badge,.int .i64 c.value,.int .i64 c.offset] #[.int .i64 e.ty,.int .i64 e.base,.int .i64 e.bits,.int .i64 e.rights,.int .i64 e.badge,.int .i64 e.mark] 41 46;rcases hK with ⟨k9,k10,hx⟩ | ⟨k9,k10,hx⟩
   ·replace hx:=hx.symm;have k9':=h9 k10;have HY:Hid (lj S c e=(S.ws (e.base+c.offset).toNat,0,S)):=by show _=_;rw [HW.out,if_neg (by omega),if_pos k9']
    have hcw:=h.ref.cw hlt;rw [h.ws,Nat.add_comm] at hcw;clear HW o1 o2 h10 h9 k9';go_enter Tryz.func88,Tryz.ntmps88
    go_wp2_with fail
    go_quiet ((go_at_call 106;exact pi (jg e.bits _ e1)))
    go_wp2_with fail
    go_quiet (fail)
    go_wp2;go_ret2;rw [HY.out];exact ⟨rfl,V,h.frame ((hfa.drewN _).drewN _) (fun _ _=>id),((hfa.drewN _).drewN _).mono (fun _=>False.elim),fun _ hk=>.inl hk⟩
   ·replace hx:=hx.symm;have k10':=h10 k10;by_cases v0:c.value<0
    ·have HY:Hid (lj S c e=(0,7,S)):=by show _=_;rw [HW.out,if_pos (.inr ⟨k10',.inl v0⟩)]
     have d3:decide (c.value<0)=true:=by simpa using v0
     clear HW o1 o2 h10 h9 k10' v0;go_enter Tryz.func88,Tryz.ntmps88
     go_wp2_with fail
     go_quiet ((go_at_call 106;exact pi (jg e.bits _ e1)))
     go_wp2_with fail
     go_ret2;exact stay _ _ ((((Fr.refl _ _).alloc _).alloc _).drewN _) HY.out
    have d3:decide (c.value<0)=false:=by simpa using v0
    by_cases v1:4294967295<c.value
    ·have HY:Hid (lj S c e=(0,7,S)):=by show _=_;rw [HW.out,if_pos (.inr ⟨k10',.inr v1⟩)]
     have d4:decide (4294967295<c.value)=true:=by simpa using v1
     clear HW o1 o2 h10 h9 k10' v0 v1;go_enter Tryz.func88,Tryz.ntmps88
     go_wp2_with fail
     go_quiet ((go_at_call 106;exact pi (jg e.bits _ e1)))
     go_wp2_with fail
     go_ret2;exact stay _ _ ((((Fr.refl _ _).alloc _).alloc _).drewN _) HY.out
    have d4:decide (4294967295<c.value)=false:=by simpa using v1
    have HY:Hid (lj S c e=(0,0,{S with ws:=qu S.ws (e.base+c.offset).toNat c.value})):=by show _=_;rw [HW.out,if_neg (by omega),if_neg (by omega)]
    have hcw:=h.ref.cw hlt;rw [h.ws,Nat.add_comm] at hcw;have hzw:=h.ref.fz (1+(e.base+c.offset).toNat);clear HW o1 o2 h10 h9 k10' v0 v1;go_enter Tryz.func88,Tryz.ntmps88
    go_wp2_with fail
    go_quiet ((go_at_call 106;exact pi (jg e.bits _ e1)))
    go_wp2_with fail
    generalize hW:((w.alloc (.cells #[.int .i64 c.kind,av,tv,.int .i64 c.ty,.int .i64 c.bits,.int .i64 c.count,.int .i64 c.rights,.int .i64 c.badge,.int .i64 c.value,.int .i64 c.offset] 41)).alloc (.cells #[.int .i64 e.ty,.int .i64 e.base,.int .i64 e.bits,.int .i64 e.rights,.int .i64 e.badge,.int .i64 e.mark] 46))=W0 at *
    clear hW;have hfb:=hfa.drewN nq;have hbC2:(W0.drewN nq).heap[w.heap.size]?=_:=hbC;have hbE2:(W0.drewN nq).heap[w.heap.size+1]?=_:=hbE;clear hbC hbE hfa;generalize hW:W0.drewN nq=W2 at *
    clear hW;have hR2:=h.frame hfb (fun _ _=>id);have x8:=aa (o:=8) hbC2 rfl;have x9:=aa (o:=9) hbC2 rfl;have z1:=aa (o:=1) hbE2 rfl;have hcw:=hR2.ref.cw hlt;rw [Nat.add_comm] at hcw;have hzw:=hR2.ref.fz (1+(e.base+c.offset).toNat);have hk2:kb<W2.heap.size:=World.block_lt_of_cell? _ _ hcw;have hs2:w.heap.size+1<W2.heap.size:=(Array.getElem?_eq_some_iff.1 hbE2).1;have hs3:w.heap.size<W2.heap.size:=by omega
    have hO:fh w kb V _ _ _:=(⟨hR2,hfb.mono (fun _=>False.elim),fun _ hk=>.inl hk⟩:fh w kb V S V W2).trans (hR2.setWord hlt c.value)
    go_region
    all_goals
     go_wp2;go_ret2;rw [HY.out];exact ⟨rfl,_,hO.drewN 1⟩
theorem bq4 (S:RS)(V:ax)(kb:Nat)(root:Int)(c:Cl)(av tv:Value)(e:aw)(w:World)(h:RD w kb S V)(hn:S.R.L.length<=900000)(hm:S.R.N.length<=900000)(hnT:S.R.T.length<=900000)(hNb:∀l∈S.R.N,0<=l.bits/\l.bits<=20)
 (hl:c.to.length<=9000000000000000000) (htv:ay w tv c.to) (he:e.ty=4->∃t∈S.R.T,t.base=e.base) :
 Calls Tryz.prog 89 #[.pointer (some ⟨kb,0,none⟩),.int .i64 root,.agg (c.cells av tv),zy e] w (tk w kb V (lc S root c e)):=by
 have stay:∀W1 x,Fr w W1 (fun _=>False)->lc S root c e=(x,S)->tk w kb V (lc S root c e) (.returned (.int .i64 x)) W1:=by
  intro W1 x hf hy;rw [hy];exact ⟨rfl,V,h.frame hf (fun _ _=>id),hf.mono (fun _=>False.elim),fun k hk=>.inl hk⟩
 rw [Cl.cells_eq];unfold zy;have hkl:kb<w.heap.size:=h.ref.fpLt (.inl rfl);by_cases ht:e.ty≠4
 ·have HY:Hid (lc S root c e=(3,S)):=by show _=_;unfold lc;rw [if_pos ht]
  have ht':(e.ty != 4)=true:=by simpa using ht
  clear ht;go_enter Tryz.func89,Tryz.ntmps89
  go_wp2_with fail
  go_ret;exact stay _ _ (((Fr.refl _ _).alloc _).alloc _) HY.out
 have ht1:e.ty=4:=by omega
 have ht':(e.ty != 4)=false:=by simp [ht1]
 by_cases hr:e.rights<4
 ·have HY:Hid (lc S root c e=(5,S)):=by show _=_;unfold lc;rw [if_neg ht,if_pos hr]
  have d1:decide (e.rights<4)=true:=by simpa using hr
  clear ht ht1 hr;go_enter Tryz.func89,Tryz.ntmps89
  go_wp2_with fail
  go_ret;exact stay _ _ (((Fr.refl _ _).alloc _).alloc _) HY.out
 have d1:decide (e.rights<4)=false:=by simpa using hr
 have HG:Hid (lc S root c e=match bk S.R.L S.R.N root c.to with
  | none=>(2,S)
  | some (n,ix)=>match S.R.L.findIdx? (ee n ix) with
   | none=>(3,S)
   | some p=>match S.R.L[p]? with
    | none=>(3,S)
    | some x=>if x.ty≠2 then (3,S) else if x.rights<4 then (5,S) else (0,{S with R:={S.R with T:=setT e.base (zw x.base) S.R.T}})):=by
  show _=_;unfold lc;rw [if_neg ht,if_neg hr];rfl
 obtain ⟨p2,hp2,hpx2,hpi2,_⟩:=b37 (he ht1);clear ht ht1 hr he;obtain ⟨hfa,hbC,hbE⟩:=xi w #[.int .i64 c.kind,av,tv,.int .i64 c.ty,.int .i64 c.bits,.int .i64 c.count,.int .i64 c.rights,.int .i64 c.badge,.int .i64 c.value,.int .i64 c.offset] #[.int .i64 e.ty,.int .i64 e.base,.int .i64 e.bits,.int .i64 e.rights,.int .i64 e.badge,.int .i64 e.mark] 41 46;have h1:=h.frame hfa (fun _ _=>id);have hfi:=mb S.R.L S.R.N kb V.lv V.nv tv root c.to _ (by omega) (by omega) hl h1.ref.cl h1.ref.ll h1.ref.cn h1.ref.lnn hNb (htv.fr hfa (fun _ _=>id));go_enter Tryz.func89,Tryz.ntmps89
 go_wp2_with fail
 generalize hW:((w.alloc (.cells #[.int .i64 c.kind,av,tv,.int .i64 c.ty,.int .i64 c.bits,.int .i64 c.count,.int .i64 c.rights,.int .i64 c.badge,.int .i64 c.value,.int .i64 c.offset] 41)).alloc (.cells #[.int .i64 e.ty,.int .i64 e.base,.int .i64 e.bits,.int .i64 e.rights,.int .i64 e.badge,.int .i64 e.mark] 46))=W0 at *
 clear hW;refine hfi.mono ?_;rintro e' W1 ⟨rfl,q,rfl⟩;have hf1:=hfa.drewN q;have hbC2:(W0.drewN q).heap[w.heap.size]?=_:=hbC;have hbE2:(W0.drewN q).heap[w.heap.size+1]?=_:=hbE;clear hbC hbE hfa hfi h1;generalize hW:W0.drewN q=W2 at *
 clear hW;cases hf:bk S.R.L S.R.N root c.to with
 | none=>
  have HY:Hid (lc S root c e=(2,S)):=by show _=_;rw [HG.out,hf]
  dsimp only [ts];clear HG hf;go_wp2;go_ret;exact stay _ _ hf1 HY.out
 | some ni=>
  obtain ⟨n,ix⟩:=ni;have HG2:Hid (lc S root c e=match S.R.L.findIdx? (ee n ix) with
   | none=>(3,S)
   | some p=>match S.R.L[p]? with
    | none=>(3,S)
    | some x=>if x.ty≠2 then (3,S) else if x.rights<4 then (5,S) else (0,{S with R:={S.R with T:=setT e.base (zw x.base) S.R.T}})):=by
   show _=_;rw [HG.out,hf]
  dsimp only [ts];clear HG hf;have h2:=h.frame hf1 (fun _ _=>id);have hat:=jj S.R.L kb V.lv n ix W2 (by omega) h2.ref.cl h2.ref.ll;go_wp2_with fail
  refine hat.mono ?_;rintro e' W3 ⟨rfl,rfl⟩;clear hat;have hk2:kb<W3.heap.size:=Nat.lt_of_lt_of_le hkl hf1.size;cases hidx:S.R.L.findIdx? (ee n ix) with
  | none=>
   have HX:Hid (atI S.R.L n ix=-1):=by show _=_;unfold atI;rw [hidx];rfl
   have HY:Hid (lc S root c e=(3,S)):=by show _=_;rw [HG2.out,hidx]
   rw [HX.out];clear HG2 hidx;go_wp2;go_ret;exact stay _ _ hf1 HY.out
  | some p=>
   obtain ⟨hp,_⟩:=List.findIdx?_eq_some_iff_getElem.1 hidx;have HX:Hid (atI S.R.L n ix=(p:Int)):=by show _=_;unfold atI;rw [hidx];rfl
   have HG3:Hid (lc S root c e=if S.R.L[p].ty≠2 then (3,S) else if S.R.L[p].rights<4 then (5,S) else (0,{S with R:={S.R with T:=setT e.base (zw S.R.L[p].base) S.R.T}})):=by
    show _=_;rw [HG2.out,hidx];simp only [List.getElem?_eq_getElem hp]
   rw [HX.out];clear HG2 hidx;obtain ⟨g1,c1,hlv,hcap1,hg1,_,_,u2,u3,_,u5,_,_,_⟩:=fe h2.ref p hp;have hcl:=h2.ref.cl;rw [hlv] at hcl;by_cases y1:S.R.L[p].ty≠2
   ·have HY:Hid (lc S root c e=(3,S)):=by show _=_;rw [HG3.out,if_pos y1]
    have dy:(S.R.L[p].ty != 2)=true:=by simpa using y1
    clear HG3 y1;go_wp2;go_ret;exact stay _ _ hf1 HY.out
   have dy:(S.R.L[p].ty != 2)=false:=by simpa using y1
   by_cases y2:S.R.L[p].rights<4
   ·have HY:Hid (lc S root c e=(5,S)):=by show _=_;rw [HG3.out,if_neg y1,if_pos y2]
    have dr:decide (S.R.L[p].rights<4)=true:=by simpa using y2
    clear HG3 y1 y2;go_wp2;go_ret;exact stay _ _ hf1 HY.out
   have dr:decide (S.R.L[p].rights<4)=false:=by simpa using y2
   have HTS:Hid (setT e.base (zw S.R.L[p].base) S.R.T=S.R.T.set p2 (zw S.R.L[p].base S.R.T[p2])):=aa9 hp2 hpx2;have HY:Hid (lc S root c e=(0,{S with R:={S.R with T:=S.R.T.set p2 (zw S.R.L[p].base S.R.T[p2])}})):=by show _=_;rw [HG3.out,if_neg y1,if_neg y2,HTS.out]
   clear HG3 y1 y2 HTS;obtain ⟨gt,capt,htv2,hcapt,hgt,_,_,t2,_⟩:=iq h2.ref p2 hp2;have hct:=h2.ref.ct;rw [htv2] at hct;have zt:W3.frozen? ⟨gt,p2*6+2,none⟩=false:=aa3 h2.ref htv2 _;have z1:=aa (o:=1) hbE2 rfl;have hs2:w.heap.size+1<W3.heap.size:=(Array.getElem?_eq_some_iff.1 hbE2).1;have hTD:=fun W (hF:Fr W3 W (fun _=>False))=>ek S.R.T kb V.tv e.base W (by omega) (h2.frame hF (fun _ _=>id)).ref.ct (h2.frame hF (fun _ _=>id)).ref.ltt
   rw [hpi2] at hTD;have hO:fh w kb V _ _ _:=(⟨h2,hf1.mono (fun _=>False.elim),fun _ hk=>.inl hk⟩:fh w kb V S V W3).trans (h2.setField hp2 htv2 2 (by omega) (.int .i64 S.R.L[p].base) (zw S.R.L[p].base S.R.T[p2]) rfl)
   go_wp2_with fail
   go_region_law (go_simp;go_at_call 78;refine (hTD _ ((Fr.refl _ _).drew)).mono ?_;rintro e' W4 ⟨rfl,rfl⟩)
   all_goals
    go_wp2;go_ret;rw [HY.out];exact ⟨rfl,_,hO.drewN 1⟩
end Go.Proofs.YtdpjgflemddekaaGreatDoor

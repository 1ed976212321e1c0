/- The code: workOffLast, one slot. -/
import Derived.Test.YtdpjgflemddekaaDoorMTakeA
import Derived.Test.YtdpjgflemddekaaDoorMInvD
import Derived.Sort.LoopGhostIn
set_option maxRecDepth 100000
set_option maxHeartbeats 8000000
namespace Go.Proofs.YtdpjgflemddekaaDoor
open Go.RowKit
theorem ap1 (kb:Nat)(K:a_)(A:List (Int×Int))(nd left:Int)(V:aj)(w:World)(h:KD w kb ⟨K,A++[(nd,left)]⟩ V)(hl:A.length+1<=900000)(h0:1<=left)(h1:left<=1000000)(S2:KS)
 (hS2:S2=d_ ⟨K,A++[(nd,left-1)]⟩ ⟨nd,left-1⟩)
 (htk:∀w1 c,KD w1 kb ⟨K,A++[(nd,left-1)]⟩ V->Fr w w1 (V.fd kb)->K.held ⟨nd,left-1⟩=some c->
   Calls Tryd.prog 91 #[.pointer (some ⟨kb,0,none⟩),.agg #[.int .i64 nd,.int .i64 (left-1)]] w1 fun e w'=>e=.returned (.tuple #[])/\ic w1 kb V S2 w') :
 Calls Tryd.prog 83 #[.pointer (some ⟨kb,0,none⟩)] w fun e w'=>e=.returned (.tuple #[])/\ic w kb V S2 w':=by
 obtain ⟨g,cap,hd,hc,hm,hg,d0,d1,dz⟩:=h.last;have hcd:=h.ker.cd;rw [hd] at hcd;have hw1:IntKind.i64.wrap (((A.length+1:Nat):Int)-1)=(A.length:Int):=by rw [IntKind.wrap_i64];omega
 have hw2:IntKind.i64.wrap (left-1)=left-1:=by rw [IntKind.wrap_i64];omega
 have hz1:(0:Int)<=(A.length:Int):=by omega
 have hz2:(A.length:Int)<((A.length+1:Nat):Int):=by omega
 have hz3:(A.length:Int)<(A.length:Int)+1:=by omega
 have hl0:¬left=0:=by omega
 have hkg:kb≠g:=fun e=>h.ap g (by rw [hd];rfl) (.inl e.symm)
 have hle:=h.less hd (left-1);have hF1:Fr w (w.setCell ⟨g,A.length*2+1,none⟩ (.int .i64 (left-1))) (V.fd kb):=(Fr.set1 w g _ _).mono (fun k hk=>.inr (by rw [hd,hk];rfl))
 go_enter Tryd.func83,Tryd.ntmps83
 go_upto_region 4 with fail
 generalize hW1:w.setCell ⟨g,A.length*2+1,none⟩ (.int .i64 (left-1))=W1 at *
 clear hW1 hcd d0 d1 dz;obtain ⟨g',cap',hd',hc',_,hg',e0,e1,_⟩:=hle.last;have hcd1:=hle.ker.cd;rw [hd] at hd' hcd1;cases hd'
 have hk7:kb<W1.heap.size:=World.block_lt_of_cell? _ _ hcd1;have hk8:¬kb=W1.heap.size:=by omega
 have hk9:¬g=W1.heap.size:=by omega
 go_cut [3] (fun u wx=>u=.pointer (some ⟨W1.heap.size,0,none⟩)/\Fr W1 wx (fun _=>False)/\wx.heap[W1.heap.size]?=some (.cells #[.int .i64 nd,.int .i64 (left-1)] 72 (0,0)))
 case first=>
  go_region_law (fail)
  all_goals
   go_wp2;go_meet;case rel=>exact ⟨rfl,(by first | exact ((Fr.refl W1 _).drew).alloc _ | exact ((Fr.refl W1 _).alloc _).drew),heap_alloc_new W1 _⟩
 case rest=>
 obtain ⟨rfl,hf2,hb2⟩:=hcut;obtain ⟨W2,hWW⟩:∃W2,W2=wc:=⟨wc,rfl⟩;subst hWW;have hK2:=hle.frame hf2 (fun _ _=>id);have hF2:Fr w W2 (V.fd kb):=hF1.step hf2 (fun _=>False.elim);have hKd:=hK2.frame ((Fr.refl W2 (fun _=>False)).drew) (fun _ _=>id);have hlk:V.ker.held ⟨nd,left-1⟩=K.held ⟨nd,left-1⟩:=by rw [h.eq]
 have hrun:=bk hKd.ker ⟨nd,left-1⟩ true;clear hle hF1 hf2 h e0 e1 hcd1 hd hc hm hg hc' hg' hw1 hw2 hz1 hz2 hz3 hl0 hkg;have s0:=aa (o:=0) hb2 rfl;have s1:=aa (o:=1) hb2 rfl;have ch2:=hK2.ker.ch;have HS2:Hid (S2=d_ ⟨K,A++[(nd,left-1)]⟩ ⟨nd,left-1⟩):=hS2;clear hS2;cases hh:K.held ⟨nd,left-1⟩ with
 | none=>
  have hfin:Hid (S2=⟨K,A++[(nd,left-1)]⟩):=by show _=_;rw [HS2.out,kw hh]
  have hout:ic w kb V S2 W2.drew:=by rw [hfin.out];exact ⟨V,hKd,hF2.drew,fun k hk=>.inl hk⟩
  rw [hlk,hh] at hrun;simp only [if_true,Option.isSome] at hrun;go_upto_region 5 with fail
  go_cut [4,5] (fun _ u wx=>u=.bool false/\wx=W2.drew)
  case first=>
   go_region_law (fail)
   all_goals
    go_wp2;go_meet;case rel=>exact ⟨rfl,rfl⟩
  case rest=>
  obtain ⟨rfl,hw⟩:=hcut;rw [<- hw] at hout;clear hrun hw;go_wp2;go_end0;exact ⟨rfl,hout⟩
 | some c=>
  rw [hlk,hh] at hrun;simp only [if_true,Option.isSome] at hrun;have hta:=htk W2.drew c hKd hF2.drew hh;go_upto_region 5 with fail
  go_cut [4,5] (fun _ u wx=>u=.bool true/\wx=W2.drew)
  case first=>
   go_region_law (fail)
   all_goals
    go_wp2;go_meet;case rel=>exact ⟨rfl,rfl⟩
  case rest=>
  obtain ⟨rfl,hw⟩:=hcut;have s0':=s0;have s1':=s1;rw [<- hw] at hta;have hb3:wc.heap[W1.heap.size]?=some (.cells #[.int .i64 nd,.int .i64 (left-1)] 72 (0,0)):=by rw [hw];exact hb2
  have hF3:Fr w wc (V.fd kb):=by rw [hw];exact hF2.drew
  clear hrun hw s0 s1 s0' s1';have s0:=aa (o:=0) hb3 rfl;have s1:=aa (o:=1) hb3 rfl;go_wp2_with (go_at_call 91;refine hta.mono ?_;rintro e W5 ⟨rfl,V5,k1,k2,k3⟩)
  go_end0;exact ⟨rfl,V5,k1,hF3.step k2 (fun k hk=>.inl hk),fun k hk=>(k3 k hk).imp id (fun e=>Nat.le_trans hF3.size e)⟩
structure qq (w:World)(kb:Nat)(S:KS)(V:aj):Prop where
 kd:KD w kb S V
 gl:fm w
 ge:∀k,V.fd kb k->2<=k
theorem fm.lt {w:World}(h:fm w):2<=w.heap.size:=by
 have:=World.block_lt_of_cell? _ _ (h.bits 0 (by decide)).1;simp only at this;omega
theorem fm.far {w w':World}{X:Nat->Prop}(h:fm w)(hf:Fr w w' X)(hx:∀k,X k->2<=k):fm w':=
 ⟨hf.cell h.n0 (fun e=>by have:=hx _ e;simp at this),hf.cell h.n1 (fun e=>by have:=hx _ e;simp at this),fun i hi=>⟨hf.cell (h.bits i hi).1 (fun e=>by have:=hx _ e;simp at this),hf.cell (h.bits i hi).2 (fun e=>by have:=hx _ e;simp at this)⟩⟩
def gj (w:World)(kb:Nat)(V:aj)(S:KS)(w':World):Prop:=
 ∃V',qq w' kb S V'/\Fr w w' (V.fd kb)/\∀k,V'.fd kb k->V.fd kb k\/w.heap.size<=k
theorem qq.out {w w':World}{kb:Nat}{S S':KS}{V:aj}(h:qq w kb S V)(ho:ic w kb V S' w'):gj w kb V S' w':=by
 obtain ⟨V',h1,h2,h3⟩:=ho;refine ⟨V',⟨h1,h.gl.far h2 h.ge,fun k hk=>?_⟩,h2,h3⟩
 rcases h3 k hk with e | e
 ·exact h.ge k e
 ·have:=h.gl.lt;omega
theorem qq.lt {w:World}{kb:Nat}{S:KS}{V:aj}(h:qq w kb S V){k:Nat}(hk:V.fd kb k):k<w.heap.size:=by
 rcases hk with e | e
 ·exact h.kd.ker.fpLt e
 ·exact (h.kd.d.lt k e).2
theorem qq.frame {w w':World}{kb:Nat}{S:KS}{V:aj}{X:Nat->Prop}(h:qq w kb S V)(hf:Fr w w' X)(hn:∀k,V.fd kb k->¬X k)(h2:∀k,X k->2<=k):qq w' kb S V:=
 ⟨h.kd.frame hf hn,h.gl.far hf h2,h.ge⟩
theorem gj.refl {w:World}{kb:Nat}{S:KS}{V:aj}(h:qq w kb S V):gj w kb V S w:=⟨V,h,Fr.refl _ _,fun _ hk=>.inl hk⟩
theorem zy (kb:Nat)(S:KS)(V:aj)(w:World)(h:qq w kb S V)(hg:b7 S)(hD:bf S=false):
 Calls Tryd.prog 83 #[.pointer (some ⟨kb,0,none⟩)] w fun e w'=>e=.returned (.tuple #[])/\gj w kb V (az S) w':=by
 obtain ⟨K,D⟩:=S;have hne:D≠[]:=fun e=>by rw [e] at hD;cases hD
 obtain ⟨A,⟨nd,left⟩,rfl⟩:∃A d,D=A++[d]:=⟨D.dropLast,D.getLast hne,(List.dropLast_concat_getLast hne).symm⟩;have hl:=hg.lenD;simp only [List.length_append,List.length_cons,List.length_nil] at hl;have hleft:=hg.dm (nd,left) (by simp);simp only at hleft;have hst:az ⟨K,A++[(nd,left)]⟩=if left=0 then ⟨K,A⟩ else d_ ⟨K,A++[(nd,left-1)]⟩ ⟨nd,left-1⟩:=by
  unfold az;simp
 by_cases h0:left=0
 ·rw [hst,if_pos h0];subst h0;refine (ax9 kb K A nd V w h.kd (by omega)).mono ?_;rintro e w' ⟨he,ho⟩;exact ⟨he,h.out ho⟩
 ·rw [hst,if_neg h0];refine (ap1 kb K A nd left V w h.kd (by omega) (by omega) (by omega) _ rfl ?_).mono ?_
  ·intro w1 c hk1 hf1 hc;exact zh kb ⟨K,A++[(nd,left-1)]⟩ V ⟨nd,left-1⟩ c w1 hk1 (h.gl.far hf1 h.ge) hc hg.tree hg.sums (by simp;omega) hg.qs (fun b n r g e=>hg.hen _ b n r g (by rw [<- e];exact hc))
  ·rintro e w' ⟨he,ho⟩;exact ⟨he,h.out ho⟩
end Go.Proofs.YtdpjgflemddekaaDoor
namespace Go.Proofs.YtdpjgflemddekaaDoor
open Go.RowKit Go.Shelf
attribute [local go_sem] Oper.semAt_some
structure bi3 (W1:World)(kb d:Nat)(V:aj)(S0:KS)(o2:Obj)(k:Nat)(wr:World)(S:KS)(V':aj):Prop where
 kd:qq wr kb S V'
 good:b7 S
 ends:qi az bf k S
 left:(ak az bf k S []).1=S0
 fr:Fr W1 wr (fun k=>V.fd kb k\/k=d+1)
 sub:∀k,V'.fd kb k->V.fd kb k\/W1.heap.size<=k
 o2:wr.heap[d+1]?=some o2
theorem KD.nil {w:World}{kb:Nat}{K:a_}{V:aj}(h:KD w kb ⟨K,[]⟩ V):∃A cap,V.dv=.slice A 0 cap:=by
 rcases h.d.2 with ⟨e,_⟩ | ⟨g,cap,cur,e,_⟩
 ·exact ⟨none,0,e⟩
 ·exact ⟨some ⟨g,0,none⟩,cap,e⟩
theorem au0 (kb wb d:Nat)(o1 o2:Obj)(S:KS)(V:aj)(W1:World)(h:qq W1 kb S V)(hg:b7 S)(hb:W1.heap[wb]?=some (.cells #[.pointer (some ⟨kb,0,none⟩)] 24 (0,0)))(hwb:¬V.fd kb wb)
 (hd:W1.heap[d]?=some o1) (hl:W1.heap[d+1]?=some o2) (hdn:¬V.fd kb d) (hdn1:¬V.fd kb (d+1)) (hwd:wb≠d+1) (h2:2<=d) (hgo:a88 Fence.wide 0 Tryd.prog d o1 o2 (fun W=>Fr W1 W (fun k=>V.fd kb k\/k=d+1))) :
 CallsIn Fence.wide 1 Tryd.prog 82 #[.func (.yield (d+1)) #[] #[],.pointer (some ⟨wb,0,none⟩)] W1 fun e W'=>(∃v,e=.returned v)/\∃V',qq W' kb (worked S) V'/\Fr W1 W' (fun k=>V.fd kb k\/k=d+1)/\(∀k,V'.fd kb k->V.fd kb k\/W1.heap.size<=k)/\W'.heap[d+1]?=some o2:=by
 have hdd:∀k:Nat,(Fence.wide.depth.isSome=true->1<=k):=fun k h=>by cases h
 have hlt1:d+1<W1.heap.size:=(Array.getElem?_eq_some_iff.1 hl).1;have hwlt:wb<W1.heap.size:=(Array.getElem?_eq_some_iff.1 hb).1;refine callsIn_of_wp Tryd.func82 rfl trivial ?_ rfl;simp only [Tryd.ntmps82,List.size_toArray,List.length_cons,List.length_nil,Nat.reduceAdd,Nat.reduceSub,Array.replicate_succ,Array.replicate_zero,List.push_toArray,List.append_toArray,List.nil_append,List.cons_append];obtain ⟨S0,hS0⟩:∃S0,Hid (S0=worked S):=⟨_,rfl⟩;rw [<- hS0.out];gi_wp2
 gi_loopg [8] F0 (fun k _ wr=>∃S' V',bi3 W1 kb d V S0 o2 k wr S' V')
 case atStart=>exact ⟨S,V,h,hg,hg.ends,hS0.out.symm,Fr.refl _ _,fun k hk=>.inl hk,hl⟩
 case round=>
  obtain ⟨S',V',hI⟩:=hrel;obtain ⟨hK,hG,hE,hL,hF,hsub,ho2⟩:=hI;have c0:wr.cell? ⟨wb,0,none⟩=some (.pointer (some ⟨kb,0,none⟩)):=aa (o:=0) (hF.same hb (fun e=>e.elim hwb hwd)) rfl;have c1:=hK.kd.ker.cd;by_cases hD:bf S'=true
  ·obtain ⟨K',D'⟩:=S';have hD':D'=[]:=by simpa [bf] using hD
   subst hD';obtain ⟨A,cap,hdv⟩:=hK.kd.nil;rw [hdv] at c1;have hfin:Hid ((⟨K',[]⟩:KS)=S0):=by show _=_;rw [<- hL,be9 _ _ hD]
   clear hdd hE hG hL;gi_wp2
   go_end0;exact ⟨⟨_,rfl⟩,V',hfin.out▸hK,hF,hsub,ho2⟩
  ·have hD2:bf S'=false:=by simpa using hD
   obtain ⟨n,rfl⟩:∃n,gk=n+1:=by
    cases gk with
    | zero=>exact absurd hE hD
    | succ n=>exact ⟨n,rfl⟩
   have hE2:qi az bf n (az S'):=hE.resolve_left hD;have hL2:(ak az bf n (az S') []).1=S0:=by rw [<- hL];rw [ak,if_neg hD]
   obtain ⟨K',D'⟩:=S';have hne:D'≠[]:=fun e=>by rw [e] at hD2;cases hD2
   obtain ⟨A,⟨nd,left⟩,hAD⟩:∃A e,D'=A++[e]:=⟨D'.dropLast,D'.getLast hne,(List.dropLast_concat_getLast hne).symm⟩;have hwl:=(callsIn_wide (n:=0)).2 (zy kb _ V' wr hK hG hD2);have hdv:∃g cap,V'.dv=.slice (some ⟨g,0,none⟩) (A.length+1) cap:=by
    subst hAD;obtain ⟨g,cap,hd,_⟩:=hK.kd.last;exact ⟨g,cap,hd⟩
   obtain ⟨g,cap,hdv⟩:=hdv;rw [hdv] at c1;have hpos:(0:Int)<((A.length+1:Nat):Int):=by omega
   have hgood2:=hG.step;have key:∀W2,gj wr kb V' (az ⟨K',D'⟩) W2->YieldAt Fence.wide 0 Tryd.prog (d+1) #[] W2 fun e W'=>e=.returned (.bool true)/\∃V2,bi3 W1 kb d V S0 o2 n W' (az ⟨K',D'⟩) V2:=by
    rintro W2 ⟨V2,hK2,hf2,hs2⟩;have hn:∀k,V'.fd kb k->k≠d/\k≠d+1:=fun k hk=>⟨fun e=>by
     rcases hsub k hk with e1 | e1
     ·exact hdn (e▸e1)
     ·omega,fun e=>by
     rcases hsub k hk with e1 | e1
     ·exact hdn1 (e▸e1)
     ·omega⟩
    have hF2:Fr W1 W2 (fun k=>V.fd kb k\/k=d+1):=hF.step hf2 (fun k hk=>by
     rcases hsub k hk with e | e
     ·exact .inl (.inl e)
     ·exact .inr e)
    have hd2:W2.heap[d]?=some o1:=hf2.same (hF.same hd (fun e=>e.elim hdn (fun e=>by omega))) (fun e=>(hn _ e).1 rfl)
    have hl2:W2.heap[d+1]?=some o2:=hf2.same ho2 (fun e=>(hn _ e).2 rfl)
    refine YieldAt.mono (hgo W2 hF2 hd2 hl2) ?_;rintro e W3 ⟨he,hf3,ho3⟩;have hsub2:∀k,V2.fd kb k->V.fd kb k\/W1.heap.size<=k:=fun k hk=>by
     rcases hs2 k hk with e | e
     ·exact hsub k e
     ·exact .inr (Nat.le_trans hF.size e)
    refine ⟨he,V2,hK2.frame hf3 (fun k hk e=>?_) (fun k e=>by omega),hgood2,hE2,hL2,hF2.step hf3 (fun k hk=>.inl (.inr hk)),hsub2,ho3⟩
    rcases hsub2 k hk with e1 | e1
    ·exact hdn1 (e▸e1)
    ·omega
   clear hgo hK hG hE hL hF hsub ho2 hE2 hL2 hD hgood2;gi_wp2_with (first
    |(refine ⟨trivial,hwl.mono ?_⟩;rintro e W2 ⟨rfl,ho⟩;obtain ⟨fn,tmps,assign,body,hy,hR⟩:=key W2 ho)
    |((try refine ⟨hdd _,?_⟩);refine hR.mono ?_;clear hR;rintro e W3 ⟨rfl,V3,hI3⟩))
   gi_roundg n
   case measure=>omega
   case rel=>exact ⟨_,V3,hI3⟩
theorem bh5:∀args w,(callFunc 82 args).run Tryd.prog w=.ok (.enter 82 args) w:=enters_of Tryd.func82 (by kernel_rfl) rfl
theorem au3 {kb ub wb:Nat}{S:KS}{V:aj}{A:Option Addr}{cap:Nat}{w:World}(h:qq w kb S V)(hg:b7 S)(hc:w.cell? ⟨ub,13,none⟩=some (.slice A 0 cap))(hun:¬V.fd kb ub)(hb:w.heap[wb]?=some (.cells #[.pointer (some ⟨kb,0,none⟩)] 24 (0,0)))(hwb:¬V.fd kb wb):
 Calls Tryd.prog 60 #[.pointer (some ⟨ub,0,none⟩),.func (.func 82) #[] #[.pointer (some ⟨wb,0,none⟩)]] w fun e w'=>e=.returned (.int .i64 0)/\gj w kb V (worked S) w':=by
 have hwlt:wb<w.heap.size:=(Array.getElem?_eq_some_iff.1 hb).1;have h2:=h.gl.lt;refine (a14 82 #[.pointer (some ⟨wb,0,none⟩)] ub A cap w (V.fd kb) (fun W1 W'=>∃V',qq W' kb (worked S) V'/\Fr w W' (V.fd kb)/\∀k,V'.fd kb k->V.fd kb k\/W1.heap.size<=k) bh5 hc hun (fun k hk=>h.lt hk) ?_ ?_).mono ?_
 ·intro d o1 o2 W1 hf1 hwd hd hl hgo;have hn:∀k,w.heap.size<=k->¬V.fd kb k:=fun k hk e=>by have:=h.lt e;omega
  rw [show (#[.func (.yield (d+1)) #[] #[]]++#[.pointer (some ⟨wb,0,none⟩)]:Array Value)=#[.func (.yield (d+1)) #[] #[],.pointer (some ⟨wb,0,none⟩)] from rfl];refine (au0 kb wb d o1 o2 S V W1 (h.frame hf1 (fun _ _=>id) (fun _=>False.elim)) hg (hf1.same hb id) hwb hd hl (hn _ hwd) (hn _ (by omega)) (by omega) (by omega) hgo).mono ?_;rintro e W' ⟨he,V',hk,hf,hs,ho⟩;exact ⟨he,hf,ho,V',hk,(hf1.mono (fun _=>False.elim)).step hf (fun k hk=>hk.imp id (fun e=>by omega)),hs⟩
 ·rintro W1 W W' ⟨V',hk,hf,hs⟩ hfr;refine ⟨V',hk.frame hfr (fun k hk e=>?_) (fun k e=>by omega),hf.step hfr (fun k e=>.inr e.1),hs⟩;rcases hs k hk with e1 | e1
  ·have:=h.lt e1;omega
  ·omega
 ·rintro e w' ⟨he,W1,hf1,V',hk,hf,hs⟩;refine ⟨he,V',hk,hf,fun k hk=>(hs k hk).imp id (fun e=>Nat.le_trans hf1.size e)⟩
theorem gj.of {w w1 w2:World}{kb:Nat}{V:aj}{S:KS}(hf:Fr w w1 (fun _=>False))(h:gj w1 kb V S w2):gj w kb V S w2:=by
 obtain ⟨V1,k1,f1,s1⟩:=h;exact ⟨V1,k1,(hf.mono (fun _=>False.elim)).step f1 (fun _ e=>.inl e),fun k hk=>(s1 k hk).imp id (fun e=>Nat.le_trans hf.size e)⟩
theorem an5 (n:Nat):(Builtin.zeroCells (Value.int .u32 0).cells n).toList=List.replicate n (Value.int .u32 0):=by
 have e:(Value.int .u32 0).cells=#[Value.int .u32 0]:=rfl;rw [e];refine List.ext_getElem (by simp [Builtin.zeroCells]) (fun i h1 h2=>?_);simp [Builtin.zeroCells,Nat.mod_one]
theorem ag2 {P:Program}{w:World}(t e:TypeId)(ht:P.underlying t=some (.slice e))(hv:∀w,(zeroValue e).run P w=.ok (.int .u32 0) w)
 (n g off:Nat) (cur:List Value) (t':TypeId) (hg:w.heap[g]?=some (.cells cur.toArray t' (0,0))) (hfit:off+(n+1)<=cur.length) (ty:TypeId) (c:Nat) :
 (Builtin.clear_ #[t] ty #[.slice (some ⟨g,off,none⟩) (n+1) c]).run P w=.ok (.tuple #[]) (w.setRow g (laid cur off (List.replicate (n+1) (.int .u32 0))).toArray):=by
 have hst:=run_storeCells_at P g off t' (List.replicate (n+1) (.int .u32 0)) 0 cur.toArray w hg (by simpa using hfit) (fun v hv=>by rw [(List.mem_replicate.1 hv).2];rfl)
 simp only [Nat.add_zero] at hst;have hz:=an5 (n+1);have hz2:Builtin.zeroCells (Value.int .u32 0).cells (n+1)=(List.replicate (n+1) (Value.int .u32 0)).toArray:=by rw [<- hz]
 simp [Builtin.clear_,run_underlying ht,hv,hz2,hst,laid]
theorem bw8 (cur:List Value)(o n:Nat)(z:Value)(h:o+n<=cur.length)(i:Nat):(laid cur o (List.replicate n z))[i]?=if o<=i/\i<o+n then some z else cur[i]?:=by
 unfold laid;by_cases h1:i<o
 ·rw [List.getElem?_append_left (by simp;omega),List.getElem?_take_of_lt h1,if_neg (by omega)]
 ·rw [List.getElem?_append_right (by simp;omega)];simp only [List.length_take,List.length_replicate,Nat.min_eq_left (show o<=cur.length by omega)];by_cases h2:i<o+n
  ·rw [List.getElem?_append_left (by simp;omega),if_pos ⟨by omega,h2⟩,List.getElem?_replicate,if_pos (by omega)]
  ·rw [List.getElem?_append_right (by simp;omega),if_neg (by omega),List.getElem?_drop];congr 1;simp only [List.length_replicate];omega
theorem aw.putW {w:World}{kb:Nat}{V:aj}(h:aw w kb V){c:Array Value}(hc:w.heap[kb]?=some (.cells c 70 (0,0)))(o n:Nat)(ho:o+n<=1024){a z:Int}(ha:a=(o:Int))(hz:z=(n:Int)):
 aw (w.setRow kb (laid c.toList o (List.replicate n (.int .u32 0))).toArray) kb {V with ws:=oy V.ws a z}:=by
 obtain ⟨c',hc',hcc⟩:=h.blk;rw [hc] at hc';cases hc'
 have hf:Fr w (w.setRow kb (laid c.toList o (List.replicate n (.int .u32 0))).toArray) (fun k=>k=kb):=Fr.setRow w kb _;have hsz:=hcc.size;have hlen:o+n<=c.toList.length:=by rw [Array.length_toList];omega
 have hget:∀i,(laid c.toList o (List.replicate n (.int .u32 0))).toArray[i]?=if o<=i/\i<o+n then some (.int .u32 0) else c[i]?:=fun i=>by
  have:=bw8 c.toList o n (.int .u32 0) hlen i;simpa using this
 have hrow:∀k,cm V.tb V.M k->¬(k=kb):=by
  rintro k (rfl | ⟨s,y,hy,hk⟩) e
  ·exact h.kt e.symm
  ·exact h.rows s y hy (e▸hk)
 have hrest:∀k,kj V.Q k->¬(k=kb):=by
  intro k hk e;exact h.rest.noCells hc hk e
 refine ⟨⟨_,setRow_heap w kb _ _ _ _ hc,⟨?_,fun i hi=>?_,?_,?_,?_,?_,?_,?_⟩⟩,h.held.frame hf (Ne.symm h.kh),h.tree.frame hf hrow,h.nodes.frame hf (Ne.symm h.kn),h.thr.frame hf (Ne.symm h.kr),h.que.frame hf (Ne.symm h.kq),h.ht,h.hn,h.hr,h.hq,h.tn,h.tr,h.tq,h.nr,h.nq,h.rq,h.rows,h.rest.frame hf hrest⟩
 ·have:=ku (cur:=c.toList) (cs:=List.replicate n (.int .u32 0)) (o:=o) (by simpa using hlen);simpa [hsz] using this
 ·rw [hget i];simp only [oy];by_cases h1:o<=i/\i<o+n
  ·rw [if_pos h1,if_pos (by omega)]
  ·rw [if_neg h1,if_neg (by omega)];exact hcc.w i hi
 ·rw [hget,if_neg (by omega)];exact hcc.h
 ·rw [hget,if_neg (by omega)];exact hcc.t
 ·rw [hget,if_neg (by omega)];exact hcc.n
 ·rw [hget,if_neg (by omega)];exact hcc.d
 ·rw [hget,if_neg (by omega)];exact hcc.r
 ·rw [hget,if_neg (by omega)];exact hcc.q
theorem c_.frk {w w':World}{v:Value}{l:List Int}{S:Nat->Prop}(h:c_ w v l)(hf:Fr w w' S)(hs:0<l.length->∀k,v.ownBlock=some k->¬S k):c_ w' v l:=by
 obtain ⟨A,cap,rfl,hA⟩:=h;refine ⟨A,cap,rfl,fun h0=>?_⟩
 obtain ⟨g,o,rfl,hc⟩:=hA h0;exact ⟨g,o,rfl,fun i hi=>hf.cell (hc i hi) (hs h0 g rfl)⟩
theorem c_.ltk {w:World}{v:Value}{l:List Int}(h:c_ w v l)(h0:0<l.length)(k:Nat)(hk:v.ownBlock=some k):k<w.heap.size:=by
 obtain ⟨A,cap,rfl,hA⟩:=h;obtain ⟨g,o,rfl,hc⟩:=hA h0;have:g=k:=by simpa [Value.ownBlock] using hk
 subst this;exact World.block_lt_of_cell? _ _ (hc 0 h0)
structure n_ (w:World)(kb ub:Nat)(S:KS)(V:aj)(c:Cl)(av tv:Value)(bv:Value)(th root:Int):Prop where
 kd:qq w kb S V
 good:b7 S
 turn:ef w ub kb c av tv th root bv
 at_:c_ w av c.at_
 ti:c_ w tv c.to
 al:c.at_.length<=9000000000000000000
 tl:c.to.length<=9000000000000000000
 ac:∀A n cap,av=.slice A n cap->n<=cap
 tc:∀A n cap,tv=.slice A n cap->n<=cap
 ub:¬V.fd kb ub
 da:0<c.at_.length->∀k,av.ownBlock=some k->¬V.fd kb k
 dt:0<c.to.length->∀k,tv.ownBlock=some k->¬V.fd kb k
theorem qq.kids {w:World}{kb:Nat}{S:KS}{V:aj}(h:qq w kb S V)(hg:b7 S)(p:Slot)(x:bx)(hx:aq p V.M=some x):x.kids.length<1000000:=by
 have h1:S.K.st p=some x.std:=by rw [<- h.kd.eq];simp [aj.ker,dc,hx]
 have:=hg.kids h1;have h2:x.std.kids.length=x.kids.length:=by simp [bx.std]
 omega
theorem n_.call {w:World}{kb ub:Nat}{S:KS}{V:aj}{c:Cl}{av tv:Value}{bv:Value}{th root:Int}(h:n_ w kb ub S V c av tv bv th root):di w kb ub V c av tv bv th root:=
 ⟨h.kd.kd.ker,h.turn,h.at_,h.ti,h.al,h.tl,h.ac,h.tc,fun e=>h.ub (.inl e),h.kd.kids h.good⟩
theorem n_.past {w w':World}{kb ub:Nat}{S S':KS}{V V':aj}{c:Cl}{av tv:Value}{bv:Value}{th root:Int}(h:n_ w kb ub S V c av tv bv th root)(hk:qq w' kb S' V')(hg:b7 S')(hf:Fr w w' (V.fd kb))(hs:∀k,V'.fd kb k->V.fd kb k\/w.heap.size<=k):n_ w' kb ub S' V' c av tv bv th root:=by
 have hult:=h.turn.lt;refine ⟨hk,hg,h.turn.frame hf h.ub,h.at_.frk hf h.da,h.ti.frk hf h.dt,h.al,h.tl,h.ac,h.tc,fun e=>?_,fun h0 k hk e=>?_,fun h0 k hk e=>?_⟩
 ·rcases hs _ e with e | e
  ·exact h.ub e
  ·omega
 ·rcases hs _ e with e | e
  ·exact h.da h0 k hk e
  ·have:=h.at_.ltk h0 k hk;omega
 ·rcases hs _ e with e | e
  ·exact h.dt h0 k hk e
  ·have:=h.ti.ltk h0 k hk;omega
theorem n_.frame {w w':World}{kb ub:Nat}{S:KS}{V:aj}{c:Cl}{av tv:Value}{bv:Value}{th root:Int}(h:n_ w kb ub S V c av tv bv th root)(hf:Fr w w' (fun _=>False)):n_ w' kb ub S V c av tv bv th root:=
 h.past (h.kd.frame hf (fun _ _=>id) (fun _=>False.elim)) h.good (hf.mono (fun _=>False.elim)) (fun _ e=>.inl e)
def oc (K:a_):Option Slot->Ending
 | none=>gup 2
 | some s=>if (K.held s).isSome then .returned (.tuple #[.agg #[.int .i64 s.node,.int .i64 s.index],.int .i64 0]) else .returned (.tuple #[.agg #[.int .i64 0,.int .i64 0],.int .i64 4])
theorem py {W:World}{b:Nat}{x y u v e:Value}{tmps:Array Value}(h:W.heap[b]?=some (.cells #[u,v] 72 (0,0)))(ht:tmps[2]?=some (.pointer (some ⟨b,0,none⟩)))(h5:tmps[3]?=some e):
 (results Tryd.f73 tmps).run Tryd.prog ((W.setCell ⟨b,0,none⟩ x).setCell ⟨b,1,none⟩ y)=.ok (.tuple #[.agg #[x,y],e]) ((W.setCell ⟨b,0,none⟩ x).setCell ⟨b,1,none⟩ y):=by
 have hb:=yx (x:=x) (y:=y) h;have k0:=aa (o:=0) hb rfl;have k1:=aa (o:=1) hb rfl;generalize (W.setCell ⟨b,0,none⟩ x).setCell ⟨b,1,none⟩ y=W2 at k0 k1;simp [results,Tryd.results73,go_sem,ht,k0,k1,h5]
theorem n_.polled {w w1:World}{kb ub wb:Nat}{S:KS}{V:aj}{c:Cl}{av tv:Value}{A:Option Addr}{cap:Nat}{th root:Int}(h:n_ w kb ub S V c av tv (.slice A 0 cap) th root)(hf:Fr w w1 (fun _=>False))(hwb:w.heap.size<=wb)(hb:w1.heap[wb]?=some (.cells #[.pointer (some ⟨kb,0,none⟩)] 24 (0,0))):
 Calls Tryd.prog 60 #[.pointer (some ⟨ub,0,none⟩),.func (.func 82) #[] #[.pointer (some ⟨wb,0,none⟩)]] w1 fun e w'=>e=.returned (.int .i64 0)/\∃V',n_ w' kb ub (worked S) V' c av tv (.slice A 0 cap) th root/\Fr w w' (V.fd kb)/\(∀k,V'.fd kb k->V.fd kb k\/w1.heap.size<=k)/\Fr w1 w' (V.fd kb):=by
 have h1:=h.frame hf;refine (au3 h1.kd h1.good h1.turn.cbv h1.ub hb (fun e=>by have:=h.kd.lt e;omega)).mono ?_;rintro e w' ⟨he,V',k2,f2,s2⟩;exact ⟨he,V',h1.past k2 h.good.worked.1 f2 s2,(hf.mono (fun _=>False.elim)).step f2 (fun _ e=>.inl e),s2,f2⟩
def be0 (w:World)(kb:Nat)(V:aj)(r:Int×KS)(e:Ending)(w':World):Prop:=(e=.returned (.tuple #[.int .i64 0,.int .i64 r.1])\/e=gup r.1)/\gj w kb V r.2 w'
theorem gj.join {w w1 w2:World}{kb:Nat}{V V1:aj}{S:KS}(hf:Fr w w1 (V.fd kb))(hs:∀k,V1.fd kb k->V.fd kb k\/w.heap.size<=k)(h:gj w1 kb V1 S w2):gj w kb V S w2:=by
 obtain ⟨V2,k2,f2,s2⟩:=h;refine ⟨V2,k2,hf.step f2 hs,fun k hk=>?_⟩
 rcases s2 k hk with e | e
 ·exact hs k e
 ·exact .inr (Nat.le_trans hf.size e)
structure b88 (W:World)(kb ub:Nat)(V:aj)(c:Cl)(av tv:Value)(A:Option Addr)(cap:Nat)(th root:Int)(s:Slot)(S0:KS)(k:Nat)(wr:World)(S:KS)(V':aj)(R:RS):Prop where
 ag:Ag R S
 len:R.R.L.length<=k
 left:(bw k S s []).2.1=S0
 call:n_ wr kb ub S V' c av tv (.slice A 0 cap) th root
 fr:Fr W wr (V.fd kb)
 sub:∀k,V'.fd kb k->V.fd kb k\/W.heap.size<=k
end Go.Proofs.YtdpjgflemddekaaDoor

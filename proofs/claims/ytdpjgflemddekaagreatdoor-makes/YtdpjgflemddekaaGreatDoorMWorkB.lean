/- The code: workOffLast, one slot. -/
import Derived.Test.YtdpjgflemddekaaGreatDoorMTakeA
import Derived.Sort.LoopGhostIn
set_option maxRecDepth 100000
set_option maxHeartbeats 8000000
namespace Go.Proofs.YtdpjgflemddekaaGreatDoor
open Go.RowKit
theorem aq0 (kb:Nat)(K:a_)(A:List (Int×Int))(nd left:Int)(V:ah)(w:World)(h:KD w kb ⟨K,A++[(nd,left)]⟩ V)(hl:A.length+1<=900000)(h0:1<=left)(h1:left<=1000000)(S2:KS)
 (hS2:S2=iz ⟨K,A++[(nd,left-1)]⟩ ⟨nd,left-1⟩)
 (htk:∀w1 c,KD w1 kb ⟨K,A++[(nd,left-1)]⟩ V->Fr w w1 (V.fd kb)->K.held ⟨nd,left-1⟩=some c->
   Calls Tryz.prog 101 #[.pointer (some ⟨kb,0,none⟩),.agg #[.int .i64 nd,.int .i64 (left-1)]] w1 fun e w'=>e=.returned (.tuple #[])/\ic w1 kb V S2 w') :
 Calls Tryz.prog 93 #[.pointer (some ⟨kb,0,none⟩)] w fun e w'=>e=.returned (.tuple #[])/\ic w kb V S2 w':=by
 obtain ⟨g,cap,hd,hc,hm,hg,d0,d1,dz⟩:=h.last;have hcd:=h.ker.cd;rw [hd] at hcd;have hw1:IntKind.i64.wrap (((A.length+1:Nat):Int)-1)=(A.length:Int):=by rw [IntKind.wrap_i64];omega
 have hw2:IntKind.i64.wrap (left-1)=left-1:=by rw [IntKind.wrap_i64];omega
 have hz1:(0:Int)<=(A.length:Int):=by omega
 have hz2:(A.length:Int)<((A.length+1:Nat):Int):=by omega
 have hz3:(A.length:Int)<(A.length:Int)+1:=by omega
 have hl0:¬left=0:=by omega
 have hkg:kb≠g:=fun e=>h.ap g (by rw [hd];rfl) (.inl e.symm)
 have hle:=h.less hd (left-1);have hF1:Fr w (w.setCell ⟨g,A.length*2+1,none⟩ (.int .i64 (left-1))) (V.fd kb):=(Fr.set1 w g _ _).mono (fun k hk=>.inr (by rw [hd,hk];rfl))
 go_enter Tryz.func93,Tryz.ntmps93
 go_upto_region 4 with fail
 generalize hW1:w.setCell ⟨g,A.length*2+1,none⟩ (.int .i64 (left-1))=W1 at *
 clear hW1 hcd d0 d1 dz;obtain ⟨g',cap',hd',hc',_,hg',e0,e1,_⟩:=hle.last;have hcd1:=hle.ker.cd;rw [hd] at hd' hcd1;cases hd'
 have hk7:kb<W1.heap.size:=World.block_lt_of_cell? _ _ hcd1;have hk8:¬kb=W1.heap.size:=by omega
 have hk9:¬g=W1.heap.size:=by omega
 go_cut [3] (fun u wx=>u=.pointer (some ⟨W1.heap.size,0,none⟩)/\Fr W1 wx (fun _=>False)/\wx.heap[W1.heap.size]?=some (.cells #[.int .i64 nd,.int .i64 (left-1)] 71 (0,0)))
 case first=>
  go_region_law (fail)
  all_goals
   go_wp2;go_meet;case rel=>exact ⟨rfl,(by first | exact ((Fr.refl W1 _).drew).alloc _ | exact ((Fr.refl W1 _).alloc _).drew),heap_alloc_new W1 _⟩
 case rest=>
 obtain ⟨rfl,hf2,hb2⟩:=hcut;obtain ⟨W2,hWW⟩:∃W2,W2=wc:=⟨wc,rfl⟩;subst hWW;have hK2:=hle.frame hf2 (fun _ _=>id);have hF2:Fr w W2 (V.fd kb):=hF1.step hf2 (fun _=>False.elim);have hKd:=hK2.frame ((Fr.refl W2 (fun _=>False)).drew) (fun _ _=>id);have hlk:V.ker.held ⟨nd,left-1⟩=K.held ⟨nd,left-1⟩:=by rw [h.eq]
 have hrun:=be hKd.ker ⟨nd,left-1⟩ true;clear hle hF1 hf2 h e0 e1 hcd1 hd hc hm hg hc' hg' hw1 hw2 hz1 hz2 hz3 hl0 hkg;have s0:=aa (o:=0) hb2 rfl;have s1:=aa (o:=1) hb2 rfl;have ch2:=hK2.ker.ch;have HS2:Hid (S2=iz ⟨K,A++[(nd,left-1)]⟩ ⟨nd,left-1⟩):=hS2;clear hS2;cases hh:K.held ⟨nd,left-1⟩ with
 | none=>
  have hfin:Hid (S2=⟨K,A++[(nd,left-1)]⟩):=by show _=_;rw [HS2.out,zd hh]
  have hout:ic w kb V S2 W2.drew:=by rw [hfin.out];exact ⟨V,hKd,hF2.drew,fun k hk=>.inl hk⟩
  rw [hlk,hh] at hrun;simp only [if_true,Option.isSome] at hrun;go_upto_region 5 with fail
  go_cut [4,5] (fun _ u wx=>u=.bool false/\wx=W2.drew)
  case first=>
   go_region_law (fail)
   all_goals
    go_wp2;go_meet;case rel=>exact ⟨rfl,rfl⟩
  case rest=>
  obtain ⟨rfl,hw⟩:=hcut;rw [<- hw] at hout;clear hrun hw;go_wp2;go_end0;exact ⟨rfl,hout⟩
 | some c=>
  rw [hlk,hh] at hrun;simp only [if_true,Option.isSome] at hrun;have hta:=htk W2.drew c hKd hF2.drew hh;go_upto_region 5 with fail
  go_cut [4,5] (fun _ u wx=>u=.bool true/\wx=W2.drew)
  case first=>
   go_region_law (fail)
   all_goals
    go_wp2;go_meet;case rel=>exact ⟨rfl,rfl⟩
  case rest=>
  obtain ⟨rfl,hw⟩:=hcut;have s0':=s0;have s1':=s1;rw [<- hw] at hta;have hb3:wc.heap[W1.heap.size]?=some (.cells #[.int .i64 nd,.int .i64 (left-1)] 71 (0,0)):=by rw [hw];exact hb2
  have hF3:Fr w wc (V.fd kb):=by rw [hw];exact hF2.drew
  clear hrun hw s0 s1 s0' s1';have s0:=aa (o:=0) hb3 rfl;have s1:=aa (o:=1) hb3 rfl;go_wp2_with (go_at_call 101;refine hta.mono ?_;rintro e W5 ⟨rfl,V5,k1,k2,k3⟩)
  go_end0;exact ⟨rfl,V5,k1,hF3.step k2 (fun k hk=>.inl hk),fun k hk=>(k3 k hk).imp id (fun e=>Nat.le_trans hF3.size e)⟩
structure s_ (w:World)(kb:Nat)(S:KS)(V:ah):Prop where
 kd:KD w kb S V
 gl:ev w
 ge:∀k,V.fd kb k->2<=k
theorem ev.lt {w:World}(h:ev w):2<=w.heap.size:=by
 have:=World.block_lt_of_cell? _ _ (h.bits 0 (by decide)).1;simp only at this;omega
theorem ev.far {w w':World}{X:Nat->Prop}(h:ev w)(hf:Fr w w' X)(hx:∀k,X k->2<=k):ev w':=
 ⟨hf.cell h.n0 (fun e=>by have:=hx _ e;simp at this),hf.cell h.n1 (fun e=>by have:=hx _ e;simp at this),fun i hi=>⟨hf.cell (h.bits i hi).1 (fun e=>by have:=hx _ e;simp at this),hf.cell (h.bits i hi).2 (fun e=>by have:=hx _ e;simp at this)⟩⟩
def fg (w:World)(kb:Nat)(V:ah)(S:KS)(w':World):Prop:=
 ∃V',s_ w' kb S V'/\Fr w w' (V.fd kb)/\∀k,V'.fd kb k->V.fd kb k\/w.heap.size<=k
theorem s_.out {w w':World}{kb:Nat}{S S':KS}{V:ah}(h:s_ w kb S V)(ho:ic w kb V S' w'):fg w kb V S' w':=by
 obtain ⟨V',h1,h2,h3⟩:=ho;refine ⟨V',⟨h1,h.gl.far h2 h.ge,fun k hk=>?_⟩,h2,h3⟩
 rcases h3 k hk with e | e
 ·exact h.ge k e
 ·have:=h.gl.lt;omega
theorem s_.lt {w:World}{kb:Nat}{S:KS}{V:ah}(h:s_ w kb S V){k:Nat}(hk:V.fd kb k):k<w.heap.size:=by
 rcases hk with e | e
 ·exact h.kd.ker.fpLt e
 ·exact (h.kd.d.lt k e).2
theorem s_.frame {w w':World}{kb:Nat}{S:KS}{V:ah}{X:Nat->Prop}(h:s_ w kb S V)(hf:Fr w w' X)(hn:∀k,V.fd kb k->¬X k)(h2:∀k,X k->2<=k):s_ w' kb S V:=
 ⟨h.kd.frame hf hn,h.gl.far hf h2,h.ge⟩
theorem fg.refl {w:World}{kb:Nat}{S:KS}{V:ah}(h:s_ w kb S V):fg w kb V S w:=⟨V,h,Fr.refl _ _,fun _ hk=>.inl hk⟩
theorem ax8 (kb:Nat)(S:KS)(V:ah)(w:World)(h:s_ w kb S V)(hg:cm S)(hD:bz S=false):
 Calls Tryz.prog 93 #[.pointer (some ⟨kb,0,none⟩)] w fun e w'=>e=.returned (.tuple #[])/\fg w kb V (bh S) w':=by
 obtain ⟨K,D⟩:=S;have hne:D≠[]:=fun e=>by rw [e] at hD;cases hD
 obtain ⟨A,⟨nd,left⟩,rfl⟩:∃A d,D=A++[d]:=⟨D.dropLast,D.getLast hne,(List.dropLast_concat_getLast hne).symm⟩;have hl:=hg.lenD;simp only [List.length_append,List.length_cons,List.length_nil] at hl;have hleft:=hg.dm (nd,left) (by simp);simp only at hleft;have hst:bh ⟨K,A++[(nd,left)]⟩=if left=0 then ⟨K,A⟩ else iz ⟨K,A++[(nd,left-1)]⟩ ⟨nd,left-1⟩:=by
  unfold bh;simp
 by_cases h0:left=0
 ·rw [hst,if_pos h0];subst h0;refine (au4 kb K A nd V w h.kd (by omega)).mono ?_;rintro e w' ⟨he,ho⟩;exact ⟨he,h.out ho⟩
 ·rw [hst,if_neg h0];refine (aq0 kb K A nd left V w h.kd (by omega) (by omega) (by omega) _ rfl ?_).mono ?_
  ·intro w1 c hk1 hf1 hc;exact ac9 kb ⟨K,A++[(nd,left-1)]⟩ V ⟨nd,left-1⟩ c w1 hk1 (h.gl.far hf1 h.ge) hc hg.tree hg.sums (by simp;omega) hg.qs (fun b n r g e=>hg.hen _ b n r g (by rw [<- e];exact hc))
  ·rintro e w' ⟨he,ho⟩;exact ⟨he,h.out ho⟩
end Go.Proofs.YtdpjgflemddekaaGreatDoor
namespace Go.Proofs.YtdpjgflemddekaaGreatDoor
open Go.RowKit Go.Shelf
attribute [local go_sem] Oper.semAt_some
structure b86 (W1:World)(kb d:Nat)(V:ah)(S0:KS)(o2:Obj)(k:Nat)(wr:World)(S:KS)(V':ah):Prop where
 kd:s_ wr kb S V'
 good:cm S
 ends:xx bh bz k S
 left:(ao bh bz k S []).1=S0
 fr:Fr W1 wr (fun k=>V.fd kb k\/k=d+1)
 sub:∀k,V'.fd kb k->V.fd kb k\/W1.heap.size<=k
 o2:wr.heap[d+1]?=some o2
theorem KD.nil {w:World}{kb:Nat}{K:a_}{V:ah}(h:KD w kb ⟨K,[]⟩ V):∃A cap,V.dv=.slice A 0 cap:=by
 rcases h.d.2 with ⟨e,_⟩ | ⟨g,cap,cur,e,_⟩
 ·exact ⟨none,0,e⟩
 ·exact ⟨some ⟨g,0,none⟩,cap,e⟩
theorem bz_:∀args w,(callFunc 92 args).run Tryz.prog w=.ok (.enter 92 args) w:=enters_of Tryz.func92 (by kernel_rfl) rfl
theorem fg.of {w w1 w2:World}{kb:Nat}{V:ah}{S:KS}(hf:Fr w w1 (fun _=>False))(h:fg w1 kb V S w2):fg w kb V S w2:=by
 obtain ⟨V1,k1,f1,s1⟩:=h;exact ⟨V1,k1,(hf.mono (fun _=>False.elim)).step f1 (fun _ e=>.inl e),fun k hk=>(s1 k hk).imp id (fun e=>Nat.le_trans hf.size e)⟩
theorem al5 (n:Nat):(Builtin.zeroCells (Value.int .u32 0).cells n).toList=List.replicate n (Value.int .u32 0):=by
 have e:(Value.int .u32 0).cells=#[Value.int .u32 0]:=rfl;rw [e];refine List.ext_getElem (by simp [Builtin.zeroCells]) (fun i h1 h2=>?_);simp [Builtin.zeroCells,Nat.mod_one]
theorem ah4 {P:Program}{w:World}(t e:TypeId)(ht:P.underlying t=some (.slice e))(hv:∀w,(zeroValue e).run P w=.ok (.int .u32 0) w)
 (n g off:Nat) (cur:List Value) (t':TypeId) (hg:w.heap[g]?=some (.cells cur.toArray t' (0,0))) (hfit:off+(n+1)<=cur.length) (ty:TypeId) (c:Nat) :
 (Builtin.clear_ #[t] ty #[.slice (some ⟨g,off,none⟩) (n+1) c]).run P w=.ok (.tuple #[]) (w.setRow g (laid cur off (List.replicate (n+1) (.int .u32 0))).toArray):=by
 have hst:=run_storeCells_at P g off t' (List.replicate (n+1) (.int .u32 0)) 0 cur.toArray w hg (by simpa using hfit) (fun v hv=>by rw [(List.mem_replicate.1 hv).2];rfl)
 simp only [Nat.add_zero] at hst;have hz:=al5 (n+1);have hz2:Builtin.zeroCells (Value.int .u32 0).cells (n+1)=(List.replicate (n+1) (Value.int .u32 0)).toArray:=by rw [<- hz]
 simp [Builtin.clear_,run_underlying ht,hv,hz2,hst,laid]
theorem bz1 (cur:List Value)(o n:Nat)(z:Value)(h:o+n<=cur.length)(i:Nat):(laid cur o (List.replicate n z))[i]?=if o<=i/\i<o+n then some z else cur[i]?:=by
 unfold laid;by_cases h1:i<o
 ·rw [List.getElem?_append_left (by simp;omega),List.getElem?_take_of_lt h1,if_neg (by omega)]
 ·rw [List.getElem?_append_right (by simp;omega)];simp only [List.length_take,List.length_replicate,Nat.min_eq_left (show o<=cur.length by omega)];by_cases h2:i<o+n
  ·rw [List.getElem?_append_left (by simp;omega),if_pos ⟨by omega,h2⟩,List.getElem?_replicate,if_pos (by omega)]
  ·rw [List.getElem?_append_right (by simp;omega),if_neg (by omega),List.getElem?_drop];congr 1;simp only [List.length_replicate];omega
theorem aq.putW {w:World}{kb:Nat}{V:ah}(h:aq w kb V){c:Array Value}(hc:w.heap[kb]?=some (.cells c 69 (0,0)))(o n:Nat)(ho:o+n<=1024){a z:Int}(ha:a=(o:Int))(hz:z=(n:Int)):
 aq (w.setRow kb (laid c.toList o (List.replicate n (.int .u32 0))).toArray) kb {V with ws:=ou V.ws a z}:=by
 obtain ⟨c',hc',hcc⟩:=h.blk;rw [hc] at hc';cases hc'
 have hf:Fr w (w.setRow kb (laid c.toList o (List.replicate n (.int .u32 0))).toArray) (fun k=>k=kb):=Fr.setRow w kb _;have hsz:=hcc.size;have hlen:o+n<=c.toList.length:=by rw [Array.length_toList];omega
 have hget:∀i,(laid c.toList o (List.replicate n (.int .u32 0))).toArray[i]?=if o<=i/\i<o+n then some (.int .u32 0) else c[i]?:=fun i=>by
  have:=bz1 c.toList o n (.int .u32 0) hlen i;simpa using this
 have hrow:∀k,br V.tb V.M k->¬(k=kb):=by
  rintro k (rfl | ⟨s,y,hy,hk⟩) e
  ·exact h.kt e.symm
  ·exact h.rows s y hy (e▸hk)
 have hrest:∀k,lh V.Q k->¬(k=kb):=by
  intro k hk e;exact h.rest.noCells hc hk e
 refine ⟨⟨_,setRow_heap w kb _ _ _ _ hc,⟨?_,fun i hi=>?_,?_,?_,?_,?_,?_,?_⟩⟩,h.held.frame hf (Ne.symm h.kh),h.tree.frame hf hrow,h.nodes.frame hf (Ne.symm h.kn),h.thr.frame hf (Ne.symm h.kr),h.que.frame hf (Ne.symm h.kq),h.ht,h.hn,h.hr,h.hq,h.tn,h.tr,h.tq,h.nr,h.nq,h.rq,h.rows,h.rest.frame hf hrest⟩
 ·have:=lm (cur:=c.toList) (cs:=List.replicate n (.int .u32 0)) (o:=o) (by simpa using hlen);simpa [hsz] using this
 ·rw [hget i];simp only [ou];by_cases h1:o<=i/\i<o+n
  ·rw [if_pos h1,if_pos (by omega)]
  ·rw [if_neg h1,if_neg (by omega)];exact hcc.w i hi
 ·rw [hget,if_neg (by omega)];exact hcc.h
 ·rw [hget,if_neg (by omega)];exact hcc.t
 ·rw [hget,if_neg (by omega)];exact hcc.n
 ·rw [hget,if_neg (by omega)];exact hcc.d
 ·rw [hget,if_neg (by omega)];exact hcc.r
 ·rw [hget,if_neg (by omega)];exact hcc.q
theorem ay.frk {w w':World}{v:Value}{l:List Int}{S:Nat->Prop}(h:ay w v l)(hf:Fr w w' S)(hs:0<l.length->∀k,v.ownBlock=some k->¬S k):ay w' v l:=by
 obtain ⟨A,cap,rfl,hA⟩:=h;refine ⟨A,cap,rfl,fun h0=>?_⟩
 obtain ⟨g,o,rfl,hc⟩:=hA h0;exact ⟨g,o,rfl,fun i hi=>hf.cell (hc i hi) (hs h0 g rfl)⟩
theorem ay.ltk {w:World}{v:Value}{l:List Int}(h:ay w v l)(h0:0<l.length)(k:Nat)(hk:v.ownBlock=some k):k<w.heap.size:=by
 obtain ⟨A,cap,rfl,hA⟩:=h;obtain ⟨g,o,rfl,hc⟩:=hA h0;have:g=k:=by simpa [Value.ownBlock] using hk
 subst this;exact World.block_lt_of_cell? _ _ (hc 0 h0)
structure s5 (w:World)(kb ub:Nat)(S:KS)(V:ah)(c:Cl)(av tv:Value)(bv:Value)(th root:Int):Prop where
 kd:s_ w kb S V
 good:cm S
 turn:ef w ub kb c av tv th root bv
 at_:ay w av c.at_
 ti:ay w tv c.to
 al:c.at_.length<=9000000000000000000
 tl:c.to.length<=9000000000000000000
 ac:∀A n cap,av=.slice A n cap->n<=cap
 tc:∀A n cap,tv=.slice A n cap->n<=cap
 ub:¬V.fd kb ub
 da:0<c.at_.length->∀k,av.ownBlock=some k->¬V.fd kb k
 dt:0<c.to.length->∀k,tv.ownBlock=some k->¬V.fd kb k
theorem s_.kids {w:World}{kb:Nat}{S:KS}{V:ah}(h:s_ w kb S V)(hg:cm S)(p:Slot)(x:bj)(hx:am p V.M=some x):x.kids.length<1000000:=by
 have h1:S.K.st p=some x.std:=by rw [<- h.kd.eq];simp [ah.ker,cx,hx]
 have:=hg.kids h1;have h2:x.std.kids.length=x.kids.length:=by simp [bj.std]
 omega
theorem s5.call {w:World}{kb ub:Nat}{S:KS}{V:ah}{c:Cl}{av tv:Value}{bv:Value}{th root:Int}(h:s5 w kb ub S V c av tv bv th root):de w kb ub V c av tv bv th root:=
 ⟨h.kd.kd.ker,h.turn,h.at_,h.ti,h.al,h.tl,h.ac,h.tc,fun e=>h.ub (.inl e),h.kd.kids h.good⟩
theorem s5.past {w w':World}{kb ub:Nat}{S S':KS}{V V':ah}{c:Cl}{av tv:Value}{bv:Value}{th root:Int}(h:s5 w kb ub S V c av tv bv th root)(hk:s_ w' kb S' V')(hg:cm S')(hf:Fr w w' (V.fd kb))(hs:∀k,V'.fd kb k->V.fd kb k\/w.heap.size<=k):s5 w' kb ub S' V' c av tv bv th root:=by
 have hult:=h.turn.lt;refine ⟨hk,hg,h.turn.frame hf h.ub,h.at_.frk hf h.da,h.ti.frk hf h.dt,h.al,h.tl,h.ac,h.tc,fun e=>?_,fun h0 k hk e=>?_,fun h0 k hk e=>?_⟩
 ·rcases hs _ e with e | e
  ·exact h.ub e
  ·omega
 ·rcases hs _ e with e | e
  ·exact h.da h0 k hk e
  ·have:=h.at_.ltk h0 k hk;omega
 ·rcases hs _ e with e | e
  ·exact h.dt h0 k hk e
  ·have:=h.ti.ltk h0 k hk;omega
theorem s5.frame {w w':World}{kb ub:Nat}{S:KS}{V:ah}{c:Cl}{av tv:Value}{bv:Value}{th root:Int}(h:s5 w kb ub S V c av tv bv th root)(hf:Fr w w' (fun _=>False)):s5 w' kb ub S V c av tv bv th root:=
 h.past (h.kd.frame hf (fun _ _=>id) (fun _=>False.elim)) h.good (hf.mono (fun _=>False.elim)) (fun _ e=>.inl e)
def pg (K:a_):Option Slot->Ending
 | none=>gup 2
 | some s=>if (K.held s).isSome then .returned (.tuple #[.agg #[.int .i64 s.node,.int .i64 s.index],.int .i64 0]) else .returned (.tuple #[.agg #[.int .i64 0,.int .i64 0],.int .i64 4])
theorem q_ {W:World}{b:Nat}{x y u v e:Value}{tmps:Array Value}(h:W.heap[b]?=some (.cells #[u,v] 71 (0,0)))(ht:tmps[2]?=some (.pointer (some ⟨b,0,none⟩)))(h5:tmps[3]?=some e):
 (results Tryz.f70 tmps).run Tryz.prog ((W.setCell ⟨b,0,none⟩ x).setCell ⟨b,1,none⟩ y)=.ok (.tuple #[.agg #[x,y],e]) ((W.setCell ⟨b,0,none⟩ x).setCell ⟨b,1,none⟩ y):=by
 have hb:=ac0 (x:=x) (y:=y) h;have k0:=aa (o:=0) hb rfl;have k1:=aa (o:=1) hb rfl;generalize (W.setCell ⟨b,0,none⟩ x).setCell ⟨b,1,none⟩ y=W2 at k0 k1;simp [results,Tryz.results70,go_sem,ht,k0,k1,h5]
def a90 (w:World)(kb:Nat)(V:ah)(r:Int×KS)(e:Ending)(w':World):Prop:=(e=.returned (.tuple #[.int .i64 0,.int .i64 r.1])\/e=gup r.1)/\fg w kb V r.2 w'
structure b94 (W:World)(kb ub:Nat)(V:ah)(c:Cl)(av tv:Value)(A:Option Addr)(cap:Nat)(th root:Int)(s:Slot)(S0:KS)(k:Nat)(wr:World)(S:KS)(V':ah)(R:RS):Prop where
 ag:Ag R S
 len:R.R.L.length<=k
 left:(i_ k S s []).2.1=S0
 call:s5 wr kb ub S V' c av tv (.slice A 0 cap) th root
 fr:Fr W wr (V.fd kb)
 sub:∀k,V'.fd kb k->V.fd kb k\/W.heap.size<=k
end Go.Proofs.YtdpjgflemddekaaGreatDoor

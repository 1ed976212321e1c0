/- The code: workOffLast, any. -/
import Derived.Test.YtdpjgflemddekaaGreatDoorMWorkB
import Derived.Test.YtdpjgflemddekaaGreatDoorMTakA
import Derived.Test.YtdpjgflemddekaaGreatDoorMIterA
import Derived.Test.YtdpjgflemddekaaGreatDoorMCodeP
import Derived.Test.YtdpjgflemddekaaGreatDoorMCodeI
import Derived.Test.YtdpjgflemddekaaGreatDoorMCodeK
import Derived.Sort.LoopGhostIn
import Derived.Deep.DeepCutAuto
import Derived.Deep.CutBlock
set_option maxRecDepth 100000
set_option maxHeartbeats 2000000
namespace Go.Proofs.YtdpjgflemddekaaGreatDoor
open Go.RowKit
structure KDG (w:World)(kb:Nat)(S:KS)(V:KerV):Prop where
 kd:KD w kb S V
 gl:Glob w
 ge:∀k,V.fd kb k->2<=k
theorem Glob.lt {w:World}(h:Glob w):2<=w.heap.size:=by
 have:=World.block_lt_of_cell? _ _ (h.bits 0 (by decide)).1;simp only at this;omega
theorem Glob.far {w w':World}{X:Nat->Prop}(h:Glob w)(hf:Fr w w' X)(hx:∀k,X k->2<=k):Glob w':=
 ⟨hf.cell h.n0 (fun e=>by have:=hx _ e;simp at this),hf.cell h.n1 (fun e=>by have:=hx _ e;simp at this),fun i hi=>⟨hf.cell (h.bits i hi).1 (fun e=>by have:=hx _ e;simp at this),hf.cell (h.bits i hi).2 (fun e=>by have:=hx _ e;simp at this)⟩⟩
def KGOut (w:World)(kb:Nat)(V:KerV)(S:KS)(w':World):Prop:=
 ∃V',KDG w' kb S V'/\Fr w w' (V.fd kb)/\∀k,V'.fd kb k->V.fd kb k\/w.heap.size<=k
theorem KDG.out {w w':World}{kb:Nat}{S S':KS}{V:KerV}(h:KDG w kb S V)(ho:KDOut w kb V S' w'):KGOut w kb V S' w':=by
 obtain ⟨V',h1,h2,h3⟩:=ho;refine ⟨V',⟨h1,h.gl.far h2 h.ge,fun k hk=>?_⟩,h2,h3⟩
 rcases h3 k hk with e | e
 ·exact h.ge k e
 ·have:=h.gl.lt;omega
theorem KDG.lt {w:World}{kb:Nat}{S:KS}{V:KerV}(h:KDG w kb S V){k:Nat}(hk:V.fd kb k):k<w.heap.size:=by
 rcases hk with e | e
 ·exact h.kd.ker.fpLt e
 ·exact (h.kd.d.lt k e).2
theorem KDG.frame {w w':World}{kb:Nat}{S:KS}{V:KerV}{X:Nat->Prop}(h:KDG w kb S V)(hf:Fr w w' X)(hn:∀k,V.fd kb k->¬X k)(h2:∀k,X k->2<=k):KDG w' kb S V:=
 ⟨h.kd.frame hf hn,h.gl.far hf h2,h.ge⟩
theorem KGOut.refl {w:World}{kb:Nat}{S:KS}{V:KerV}(h:KDG w kb S V):KGOut w kb V S w:=⟨V,h,Fr.refl _ _,fun _ hk=>.inl hk⟩
theorem workLast_any (kb:Nat)(S:KS)(V:KerV)(w:World)(h:KDG w kb S V)(hg:KGood S)(hD:a_ S=false):
 Calls Tryz.prog 93 #[.pointer (some ⟨kb,0,none⟩)] w fun e w'=>e=.returned (.tuple #[])/\KGOut w kb V (ay S) w':=by
 obtain ⟨K,D⟩:=S;have hne:D≠[]:=fun e=>by rw [e] at hD;cases hD
 obtain ⟨A,⟨nd,left⟩,rfl⟩:∃A d,D=A++[d]:=⟨D.dropLast,D.getLast hne,(List.dropLast_concat_getLast hne).symm⟩;have hl:=hg.lenD;simp only [List.length_append,List.length_cons,List.length_nil] at hl;have hleft:=hg.dm (nd,left) (by simp);simp only at hleft;have hst:ay ⟨K,A++[(nd,left)]⟩=if left=0 then ⟨K,A⟩ else ci ⟨K,A++[(nd,left-1)]⟩ ⟨nd,left-1⟩:=by
  unfold ay;simp
 by_cases h0:left=0
 ·rw [hst,if_pos h0];subst h0;refine (workLast_end kb K A nd V w h.kd (by omega)).mono ?_;rintro e w' ⟨he,ho⟩;exact ⟨he,h.out ho⟩
 ·rw [hst,if_neg h0];refine (workLast_step kb K A nd left V w h.kd (by omega) (by omega) (by omega) _ rfl ?_).mono ?_
  ·intro w1 c hk1 hf1 hc;exact takeAway_any kb ⟨K,A++[(nd,left-1)]⟩ V ⟨nd,left-1⟩ c w1 hk1 (h.gl.far hf1 h.ge) hc hg.tree hg.sums (by simp;omega) hg.qs (fun b n r g e=>hg.hen _ b n r g (by rw [<- e];exact hc))
  ·rintro e w' ⟨he,ho⟩;exact ⟨he,h.out ho⟩
end Go.Proofs.YtdpjgflemddekaaGreatDoor
namespace Go.Proofs.YtdpjgflemddekaaGreatDoor
open Go.RowKit Go.Shelf
attribute [local go_sem] Oper.semAt_some
structure WorkInv (W1:World)(kb d:Nat)(V:KerV)(S0:KS)(o2:Obj)(k:Nat)(wr:World)(S:KS)(V':KerV):Prop where
 kd:KDG wr kb S V'
 good:KGood S
 ends:Ends ay a_ k S
 left:(aj ay a_ k S []).1=S0
 fr:Fr W1 wr (fun k=>V.fd kb k\/k=d+1)
 sub:∀k,V'.fd kb k->V.fd kb k\/W1.heap.size<=k
 o2:wr.heap[d+1]?=some o2
theorem KD.nil {w:World}{kb:Nat}{K:Ker}{V:KerV}(h:KD w kb ⟨K,[]⟩ V):∃A cap,V.dv=.slice A 0 cap:=by
 rcases h.d.2 with ⟨e,_⟩ | ⟨g,cap,cur,e,_⟩
 ·exact ⟨none,0,e⟩
 ·exact ⟨some ⟨g,0,none⟩,cap,e⟩
theorem workOff_goes (kb wb d:Nat)(o1 o2:Obj)(S:KS)(V:KerV)(W1:World)(h:KDG W1 kb S V)(hg:KGood S)(hb:W1.heap[wb]?=some (.cells #[.pointer (some ⟨kb,0,none⟩)] 34 (0,0)))(hwb:¬V.fd kb wb)
 (hd:W1.heap[d]?=some o1) (hl:W1.heap[d+1]?=some o2) (hdn:¬V.fd kb d) (hdn1:¬V.fd kb (d+1)) (hwd:wb≠d+1) (h2:2<=d) (hgo:GoesOn Fence.wide 0 Tryz.prog d o1 o2 (fun W=>Fr W1 W (fun k=>V.fd kb k\/k=d+1))) :
 CallsIn Fence.wide 1 Tryz.prog 92 #[.func (.yield (d+1)) #[] #[],.pointer (some ⟨wb,0,none⟩)] W1 fun e W'=>(∃v,e=.returned v)/\∃V',KDG W' kb (worked S) V'/\Fr W1 W' (fun k=>V.fd kb k\/k=d+1)/\(∀k,V'.fd kb k->V.fd kb k\/W1.heap.size<=k)/\W'.heap[d+1]?=some o2:=by
 have hdd:∀k:Nat,(Fence.wide.depth.isSome=true->1<=k):=fun k h=>by cases h
 have hlt1:d+1<W1.heap.size:=(Array.getElem?_eq_some_iff.1 hl).1;have hwlt:wb<W1.heap.size:=(Array.getElem?_eq_some_iff.1 hb).1;refine callsIn_of_wp Tryz.func92 rfl trivial ?_ rfl;simp only [Tryz.ntmps92,List.size_toArray,List.length_cons,List.length_nil,Nat.reduceAdd,Nat.reduceSub,Array.replicate_succ,Array.replicate_zero,List.push_toArray,List.append_toArray,List.nil_append,List.cons_append];obtain ⟨S0,hS0⟩:∃S0,Hid (S0=worked S):=⟨_,rfl⟩;rw [<- hS0.out];gi_wp2
 gi_loopg [8] F0 (fun k _ wr=>∃S' V',WorkInv W1 kb d V S0 o2 k wr S' V')
 case atStart=>exact ⟨S,V,h,hg,hg.ends,hS0.out.symm,Fr.refl _ _,fun k hk=>.inl hk,hl⟩
 case round=>
  obtain ⟨S',V',hI⟩:=hrel;obtain ⟨hK,hG,hE,hL,hF,hsub,ho2⟩:=hI;have c0:wr.cell? ⟨wb,0,none⟩=some (.pointer (some ⟨kb,0,none⟩)):=aa (o:=0) (hF.same hb (fun e=>e.elim hwb hwd)) rfl;have c1:=hK.kd.ker.cd;by_cases hD:a_ S'=true
  ·obtain ⟨K',D'⟩:=S';have hD':D'=[]:=by simpa [a_] using hD
   subst hD';obtain ⟨A,cap,hdv⟩:=hK.kd.nil;rw [hdv] at c1;have hfin:Hid ((⟨K',[]⟩:KS)=S0):=by show _=_;rw [<- hL,workG_done _ _ hD]
   clear hdd hE hG hL;gi_wp2
   go_end0;exact ⟨⟨_,rfl⟩,V',hfin.out▸hK,hF,hsub,ho2⟩
  ·have hD2:a_ S'=false:=by simpa using hD
   obtain ⟨n,rfl⟩:∃n,gk=n+1:=by
    cases gk with
    | zero=>exact absurd hE hD
    | succ n=>exact ⟨n,rfl⟩
   have hE2:Ends ay a_ n (ay S'):=hE.resolve_left hD;have hL2:(aj ay a_ n (ay S') []).1=S0:=by rw [<- hL];rw [aj,if_neg hD]
   obtain ⟨K',D'⟩:=S';have hne:D'≠[]:=fun e=>by rw [e] at hD2;cases hD2
   obtain ⟨A,⟨nd,left⟩,hAD⟩:∃A e,D'=A++[e]:=⟨D'.dropLast,D'.getLast hne,(List.dropLast_concat_getLast hne).symm⟩;have hwl:=(callsIn_wide (n:=0)).2 (workLast_any kb _ V' wr hK hG hD2);have hdv:∃g cap,V'.dv=.slice (some ⟨g,0,none⟩) (A.length+1) cap:=by
    subst hAD;obtain ⟨g,cap,hd,_⟩:=hK.kd.last;exact ⟨g,cap,hd⟩
   obtain ⟨g,cap,hdv⟩:=hdv;rw [hdv] at c1;have hpos:(0:Int)<((A.length+1:Nat):Int):=by omega
   have hgood2:=hG.step;have key:∀W2,KGOut wr kb V' (ay ⟨K',D'⟩) W2->YieldAt Fence.wide 0 Tryz.prog (d+1) #[] W2 fun e W'=>e=.returned (.bool true)/\∃V2,WorkInv W1 kb d V S0 o2 n W' (ay ⟨K',D'⟩) V2:=by
    rintro W2 ⟨V2,hK2,hf2,hs2⟩;have hn:∀k,V'.fd kb k->k≠d/\k≠d+1:=fun k hk=>⟨fun e=>by
     rcases hsub k hk with e1 | e1
     ·exact hdn (e▸e1)
     ·omega,fun e=>by
     rcases hsub k hk with e1 | e1
     ·exact hdn1 (e▸e1)
     ·omega⟩
    have hF2:Fr W1 W2 (fun k=>V.fd kb k\/k=d+1):=hF.step hf2 (fun k hk=>by
     rcases hsub k hk with e | e
     ·exact .inl (.inl e)
     ·exact .inr e)
    have hd2:W2.heap[d]?=some o1:=hf2.same (hF.same hd (fun e=>e.elim hdn (fun e=>by omega))) (fun e=>(hn _ e).1 rfl)
    have hl2:W2.heap[d+1]?=some o2:=hf2.same ho2 (fun e=>(hn _ e).2 rfl)
    refine YieldAt.mono (hgo W2 hF2 hd2 hl2) ?_;rintro e W3 ⟨he,hf3,ho3⟩;have hsub2:∀k,V2.fd kb k->V.fd kb k\/W1.heap.size<=k:=fun k hk=>by
     rcases hs2 k hk with e | e
     ·exact hsub k e
     ·exact .inr (Nat.le_trans hF.size e)
    refine ⟨he,V2,hK2.frame hf3 (fun k hk e=>?_) (fun k e=>by omega),hgood2,hE2,hL2,hF2.step hf3 (fun k hk=>.inl (.inr hk)),hsub2,ho3⟩
    rcases hsub2 k hk with e1 | e1
    ·exact hdn1 (e▸e1)
    ·omega
   clear hgo hK hG hE hL hF hsub ho2 hE2 hL2 hD hgood2;gi_wp2_with (first
    |(refine ⟨trivial,hwl.mono ?_⟩;rintro e W2 ⟨rfl,ho⟩;obtain ⟨fn,tmps,assign,body,hy,hR⟩:=key W2 ho)
    |((try refine ⟨hdd _,?_⟩);refine hR.mono ?_;clear hR;rintro e W3 ⟨rfl,V3,hI3⟩))
   gi_roundg n
   case measure=>omega
   case rel=>exact ⟨_,V3,hI3⟩
theorem eg_work:∀args w,(callFunc 92 args).run Tryz.prog w=.ok (.enter 92 args) w:=enters_of Tryz.func92 (by kernel_rfl) rfl
theorem polled_workG {kb ub wb:Nat}{S:KS}{V:KerV}{A:Option Addr}{cap:Nat}{w:World}(h:KDG w kb S V)(hg:KGood S)(hc:w.cell? ⟨ub,13,none⟩=some (.slice A 0 cap))(hun:¬V.fd kb ub)(hb:w.heap[wb]?=some (.cells #[.pointer (some ⟨kb,0,none⟩)] 34 (0,0)))(hwb:¬V.fd kb wb):
 Calls Tryz.prog 57 #[.pointer (some ⟨ub,0,none⟩),.func (.func 92) #[] #[.pointer (some ⟨wb,0,none⟩)]] w fun e w'=>e=.returned (.int .i64 0)/\KGOut w kb V (worked S) w':=by
 have hwlt:wb<w.heap.size:=(Array.getElem?_eq_some_iff.1 hb).1;have h2:=h.gl.lt;refine (polled_goes 92 #[.pointer (some ⟨wb,0,none⟩)] ub A cap w (V.fd kb) (fun W1 W'=>∃V',KDG W' kb (worked S) V'/\Fr w W' (V.fd kb)/\∀k,V'.fd kb k->V.fd kb k\/W1.heap.size<=k) eg_work hc hun (fun k hk=>h.lt hk) ?_ ?_).mono ?_
 ·intro d o1 o2 W1 hf1 hwd hd hl hgo;have hn:∀k,w.heap.size<=k->¬V.fd kb k:=fun k hk e=>by have:=h.lt e;omega
  rw [show (#[.func (.yield (d+1)) #[] #[]]++#[.pointer (some ⟨wb,0,none⟩)]:Array Value)=#[.func (.yield (d+1)) #[] #[],.pointer (some ⟨wb,0,none⟩)] from rfl];refine (workOff_goes kb wb d o1 o2 S V W1 (h.frame hf1 (fun _ _=>id) (fun _=>False.elim)) hg (hf1.same hb id) hwb hd hl (hn _ hwd) (hn _ (by omega)) (by omega) (by omega) hgo).mono ?_;rintro e W' ⟨he,V',hk,hf,hs,ho⟩;exact ⟨he,hf,ho,V',hk,(hf1.mono (fun _=>False.elim)).step hf (fun k hk=>hk.imp id (fun e=>by omega)),hs⟩
 ·rintro W1 W W' ⟨V',hk,hf,hs⟩ hfr;refine ⟨V',hk.frame hfr (fun k hk e=>?_) (fun k e=>by omega),hf.step hfr (fun k e=>.inr e.1),hs⟩;rcases hs k hk with e1 | e1
  ·have:=h.lt e1;omega
  ·omega
 ·rintro e w' ⟨he,W1,hf1,V',hk,hf,hs⟩;refine ⟨he,V',hk,hf,fun k hk=>(hs k hk).imp id (fun e=>Nat.le_trans hf1.size e)⟩
theorem KGOut.of {w w1 w2:World}{kb:Nat}{V:KerV}{S:KS}(hf:Fr w w1 (fun _=>False))(h:KGOut w1 kb V S w2):KGOut w kb V S w2:=by
 obtain ⟨V1,k1,f1,s1⟩:=h;exact ⟨V1,k1,(hf.mono (fun _=>False.elim)).step f1 (fun _ e=>.inl e),fun k hk=>(s1 k hk).imp id (fun e=>Nat.le_trans hf.size e)⟩
theorem take_any (kb ub:Nat)(S:KS)(V:KerV)(c:Cl)(av tv:Value)(th root:Int)(A:Option Addr)(cap:Nat)(s:Slot)(k:KCap)(w:World)(h:KDG w kb S V)(hg:KGood S)(hu:TurnAt w ub kb c av tv th root (.slice A 0 cap))(hun:¬V.fd kb ub)(hk:S.K.held s=some k):
 Calls Tryz.prog 71 #[.pointer (some ⟨ub,0,none⟩),.agg #[.int .i64 s.node,.int .i64 s.index]] w fun e w'=>e=.returned (.int .i64 0)/\KGOut w kb V (worked (ci S s)) w':=by
 have hult:=hu.lt;have hg2:=hg.take hk;have hta:∀w0,Fr w w0 (fun _=>False)->Calls Tryz.prog 101 #[.pointer (some ⟨kb,0,none⟩),.agg #[.int .i64 s.node,.int .i64 s.index]] w0 fun e w'=>e=.returned (.tuple #[])/\KGOut w kb V (ci S s) w'/\TurnAt w' ub kb c av tv th root (.slice A 0 cap):=by
  intro w0 hf0;have h0:=h.frame hf0 (fun _ _=>id) (fun _=>False.elim);refine (takeAway_any kb S V s k w0 h0.kd h0.gl hk hg.tree hg.sums (by have:=hg.lenD;omega) hg.qs (fun b n r g e=>hg.hen s b n r g (by rw [<- e];exact hk))).mono ?_
  rintro e w' ⟨he,ho⟩;have ho2:=KGOut.of hf0 (h0.out ho);obtain ⟨V1,k1,f1,s1⟩:=ho2;exact ⟨he,⟨V1,k1,f1,s1⟩,hu.frame f1 hun⟩
 have hpw:∀w1,KGOut w kb V (ci S s) w1->TurnAt w1 ub kb c av tv th root (.slice A 0 cap)->Calls Tryz.prog 57 #[.pointer (some ⟨ub,0,none⟩),.func (.func 92) #[] #[.pointer (some ⟨w1.heap.size,0,none⟩)]] (w1.alloc (.cells #[.pointer (some ⟨kb,0,none⟩)] 34)) fun e w'=>e=.returned (.int .i64 0)/\KGOut w kb V (worked (ci S s)) w':=by
  rintro w1 ho hu1;obtain ⟨V1,k1,f1,s1⟩:=ho;have hf:=(Fr.refl w1 (fun _=>False)).alloc (.cells #[.pointer (some ⟨kb,0,none⟩)] 34);have hu2:=hu1.frame hf id;refine (polled_workG (k1.frame hf (fun _ _=>id) (fun _=>False.elim)) hg2 hu2.cbv (fun e=>?_) (heap_alloc_new _ _) (fun e=>by have:=k1.lt e;omega)).mono ?_
  ·rcases s1 _ e with e | e
   ·exact hun e
   ·omega
  ·rintro e w' ⟨he,ho⟩;obtain ⟨V2,k2,f2,s2⟩:=KGOut.of hf ho;refine ⟨he,V2,k2,f1.step f2 s1,fun k hk=>?_⟩
   rcases s2 k hk with e | e
   ·exact s1 k e
   ·exact .inr (Nat.le_trans f1.size e)
 have hu0:=hu.frame ((Fr.refl w (fun _=>False)).alloc (.cells #[.int .i64 s.node,.int .i64 s.index] 71)) id;go_enter Tryz.func71,Tryz.ntmps71
 clear hg2 hg h hk;go_upto_region 1 with fail
 generalize hW0:w.alloc _=W0 at hu0;have hf0:Fr w W0 (fun _=>False):=by rw [<- hW0];exact (Fr.refl _ _).alloc _
 have hb0:W0.heap[w.heap.size]?=some (.cells #[.int .i64 s.node,.int .i64 s.index] 71 (0,0)):=by rw [<- hW0];exact heap_alloc_new _ _
 clear hW0;have hta0:=hta W0.drew hf0.drew;have s0:=aa (o:=0) hb0 rfl;have s1:=aa (o:=1) hb0 rfl;have cu:=hu0.ck;go_cut [10] (fun _ wx=>KGOut w kb V (ci S s) wx/\TurnAt wx ub kb c av tv th root (.slice A 0 cap))
 case first=>
  go_region_law (go_simp;go_at_call 101;refine hta0.mono ?_;rintro e W3 ⟨rfl,ho3,hu3⟩)
  all_goals
   go_wp2;go_meet;case rel=>exact ⟨ho3,hu3⟩
 case rest=>
 obtain ⟨ho1,hu1⟩:=hcut;clear hta hta0 s0 s1 cu hb0 hu0;have cu1:=hu1.ck;have cb1:=hu1.cbv;go_wp2_with (first
  |(go_at_call 91;refine (poll_none ub A cap _ cb1).mono ?_;rintro e w' ⟨rfl,rfl⟩)
  |(go_at_call 58;refine (workOff_any kb _).mono ?_;rintro e w' ⟨rfl,rfl⟩)
  |(go_at_call 57;refine (hpw _ ho1 hu1).mono ?_;rintro e w2 ⟨rfl,ho2⟩))
 go_ret;exact ⟨rfl,ho2⟩
theorem zeroCells_word (n:Nat):(Builtin.zeroCells (Value.int .u32 0).cells n).toList=List.replicate n (Value.int .u32 0):=by
 have e:(Value.int .u32 0).cells=#[Value.int .u32 0]:=rfl;rw [e];refine List.ext_getElem (by simp [Builtin.zeroCells]) (fun i h1 h2=>?_);simp [Builtin.zeroCells,Nat.mod_one]
theorem run_clear_words {P:Program}{w:World}(t e:TypeId)(ht:P.underlying t=some (.slice e))(hv:∀w,(zeroValue e).run P w=.ok (.int .u32 0) w)
 (n g off:Nat) (cur:List Value) (t':TypeId) (hg:w.heap[g]?=some (.cells cur.toArray t' (0,0))) (hfit:off+(n+1)<=cur.length) (ty:TypeId) (c:Nat) :
 (Builtin.clear_ #[t] ty #[.slice (some ⟨g,off,none⟩) (n+1) c]).run P w=.ok (.tuple #[]) (w.setRow g (laid cur off (List.replicate (n+1) (.int .u32 0))).toArray):=by
 have hst:=run_storeCells_at P g off t' (List.replicate (n+1) (.int .u32 0)) 0 cur.toArray w hg (by simpa using hfit) (fun v hv=>by rw [(List.mem_replicate.1 hv).2];rfl)
 simp only [Nat.add_zero] at hst;have hz:=zeroCells_word (n+1);have hz2:Builtin.zeroCells (Value.int .u32 0).cells (n+1)=(List.replicate (n+1) (Value.int .u32 0)).toArray:=by rw [<- hz]
 simp [Builtin.clear_,run_underlying ht,hv,hz2,hst,laid]
theorem laid_get (cur:List Value)(o n:Nat)(z:Value)(h:o+n<=cur.length)(i:Nat):(laid cur o (List.replicate n z))[i]?=if o<=i/\i<o+n then some z else cur[i]?:=by
 unfold laid;by_cases h1:i<o
 ·rw [List.getElem?_append_left (by simp;omega),List.getElem?_take_of_lt h1,if_neg (by omega)]
 ·rw [List.getElem?_append_right (by simp;omega)];simp only [List.length_take,List.length_replicate,Nat.min_eq_left (show o<=cur.length by omega)];by_cases h2:i<o+n
  ·rw [List.getElem?_append_left (by simp;omega),if_pos ⟨by omega,h2⟩,List.getElem?_replicate,if_pos (by omega)]
  ·rw [List.getElem?_append_right (by simp;omega),if_neg (by omega),List.getElem?_drop];congr 1;simp only [List.length_replicate];omega
theorem KerAt.putW {w:World}{kb:Nat}{V:KerV}(h:KerAt w kb V){c:Array Value}(hc:w.heap[kb]?=some (.cells c 69 (0,0)))(o n:Nat)(ho:o+n<=1024){a z:Int}(ha:a=(o:Int))(hz:z=(n:Int)):
 KerAt (w.setRow kb (laid c.toList o (List.replicate n (.int .u32 0))).toArray) kb {V with ws:=clrW V.ws a z}:=by
 obtain ⟨c',hc',hcc⟩:=h.blk;rw [hc] at hc';cases hc'
 have hf:Fr w (w.setRow kb (laid c.toList o (List.replicate n (.int .u32 0))).toArray) (fun k=>k=kb):=Fr.setRow w kb _;have hsz:=hcc.size;have hlen:o+n<=c.toList.length:=by rw [Array.length_toList];omega
 have hget:∀i,(laid c.toList o (List.replicate n (.int .u32 0))).toArray[i]?=if o<=i/\i<o+n then some (.int .u32 0) else c[i]?:=fun i=>by
  have:=laid_get c.toList o n (.int .u32 0) hlen i;simpa using this
 have hrow:∀k,bh V.tb V.M k->¬(k=kb):=by
  rintro k (rfl | ⟨s,y,hy,hk⟩) e
  ·exact h.kt e.symm
  ·exact h.rows s y hy (e▸hk)
 have hrest:∀k,restFp V.Q k->¬(k=kb):=by
  intro k hk e;exact h.rest.noCells hc hk e
 refine ⟨⟨_,setRow_heap w kb _ _ _ _ hc,⟨?_,fun i hi=>?_,?_,?_,?_,?_,?_,?_⟩⟩,h.held.frame hf (Ne.symm h.kh),h.tree.frame hf hrow,h.nodes.frame hf (Ne.symm h.kn),h.thr.frame hf (Ne.symm h.kr),h.que.frame hf (Ne.symm h.kq),h.ht,h.hn,h.hr,h.hq,h.tn,h.tr,h.tq,h.nr,h.nq,h.rq,h.rows,h.rest.frame hf hrest⟩
 ·have:=laid_len (cur:=c.toList) (cs:=List.replicate n (.int .u32 0)) (o:=o) (by simpa using hlen);simpa [hsz] using this
 ·rw [hget i];simp only [clrW];by_cases h1:o<=i/\i<o+n
  ·rw [if_pos h1,if_pos (by omega)]
  ·rw [if_neg h1,if_neg (by omega)];exact hcc.w i hi
 ·rw [hget,if_neg (by omega)];exact hcc.h
 ·rw [hget,if_neg (by omega)];exact hcc.t
 ·rw [hget,if_neg (by omega)];exact hcc.n
 ·rw [hget,if_neg (by omega)];exact hcc.d
 ·rw [hget,if_neg (by omega)];exact hcc.r
 ·rw [hget,if_neg (by omega)];exact hcc.q
theorem IntsAt.frk {w w':World}{v:Value}{l:List Int}{S:Nat->Prop}(h:IntsAt w v l)(hf:Fr w w' S)(hs:0<l.length->∀k,v.ownBlock=some k->¬S k):IntsAt w' v l:=by
 obtain ⟨A,cap,rfl,hA⟩:=h;refine ⟨A,cap,rfl,fun h0=>?_⟩
 obtain ⟨g,o,rfl,hc⟩:=hA h0;exact ⟨g,o,rfl,fun i hi=>hf.cell (hc i hi) (hs h0 g rfl)⟩
theorem IntsAt.ltk {w:World}{v:Value}{l:List Int}(h:IntsAt w v l)(h0:0<l.length)(k:Nat)(hk:v.ownBlock=some k):k<w.heap.size:=by
 obtain ⟨A,cap,rfl,hA⟩:=h;obtain ⟨g,o,rfl,hc⟩:=hA h0;have:g=k:=by simpa [Value.ownBlock] using hk
 subst this;exact World.block_lt_of_cell? _ _ (hc 0 h0)
structure CallG (w:World)(kb ub:Nat)(S:KS)(V:KerV)(c:Cl)(av tv:Value)(bv:Value)(th root:Int):Prop where
 kd:KDG w kb S V
 good:KGood S
 turn:TurnAt w ub kb c av tv th root bv
 at_:IntsAt w av c.at_
 ti:IntsAt w tv c.to
 al:c.at_.length<=9000000000000000000
 tl:c.to.length<=9000000000000000000
 ac:∀A n cap,av=.slice A n cap->n<=cap
 tc:∀A n cap,tv=.slice A n cap->n<=cap
 ub:¬V.fd kb ub
 da:0<c.at_.length->∀k,av.ownBlock=some k->¬V.fd kb k
 dt:0<c.to.length->∀k,tv.ownBlock=some k->¬V.fd kb k
theorem KDG.kids {w:World}{kb:Nat}{S:KS}{V:KerV}(h:KDG w kb S V)(hg:KGood S)(p:Slot)(x:RStd)(hx:ak p V.M=some x):x.kids.length<1000000:=by
 have h1:S.K.st p=some x.std:=by rw [<- h.kd.eq];simp [KerV.ker,bu,hx]
 have:=hg.kids h1;have h2:x.std.kids.length=x.kids.length:=by simp [RStd.std]
 omega
theorem CallG.call {w:World}{kb ub:Nat}{S:KS}{V:KerV}{c:Cl}{av tv:Value}{bv:Value}{th root:Int}(h:CallG w kb ub S V c av tv bv th root):CallAt w kb ub V c av tv bv th root:=
 ⟨h.kd.kd.ker,h.turn,h.at_,h.ti,h.al,h.tl,h.ac,h.tc,fun e=>h.ub (.inl e),h.kd.kids h.good⟩
theorem CallG.past {w w':World}{kb ub:Nat}{S S':KS}{V V':KerV}{c:Cl}{av tv:Value}{bv:Value}{th root:Int}(h:CallG w kb ub S V c av tv bv th root)(hk:KDG w' kb S' V')(hg:KGood S')(hf:Fr w w' (V.fd kb))(hs:∀k,V'.fd kb k->V.fd kb k\/w.heap.size<=k):CallG w' kb ub S' V' c av tv bv th root:=by
 have hult:=h.turn.lt;refine ⟨hk,hg,h.turn.frame hf h.ub,h.at_.frk hf h.da,h.ti.frk hf h.dt,h.al,h.tl,h.ac,h.tc,fun e=>?_,fun h0 k hk e=>?_,fun h0 k hk e=>?_⟩
 ·rcases hs _ e with e | e
  ·exact h.ub e
  ·omega
 ·rcases hs _ e with e | e
  ·exact h.da h0 k hk e
  ·have:=h.at_.ltk h0 k hk;omega
 ·rcases hs _ e with e | e
  ·exact h.dt h0 k hk e
  ·have:=h.ti.ltk h0 k hk;omega
theorem CallG.frame {w w':World}{kb ub:Nat}{S:KS}{V:KerV}{c:Cl}{av tv:Value}{bv:Value}{th root:Int}(h:CallG w kb ub S V c av tv bv th root)(hf:Fr w w' (fun _=>False)):CallG w' kb ub S V c av tv bv th root:=
 h.past (h.kd.frame hf (fun _ _=>id) (fun _=>False.elim)) h.good (hf.mono (fun _=>False.elim)) (fun _ e=>.inl e)
def toTake (K:Ker):Option Slot->Ending
 | none=>gup 2
 | some s=>if (K.held s).isSome then .returned (.tuple #[.agg #[.int .i64 s.node,.int .i64 s.index],.int .i64 0]) else .returned (.tuple #[.agg #[.int .i64 0,.int .i64 0],.int .i64 4])
theorem toTake_results {W:World}{b:Nat}{x y u v e:Value}{tmps:Array Value}(h:W.heap[b]?=some (.cells #[u,v] 71 (0,0)))(ht:tmps[2]?=some (.pointer (some ⟨b,0,none⟩)))(h5:tmps[3]?=some e):
 (results Tryz.f70 tmps).run Tryz.prog ((W.setCell ⟨b,0,none⟩ x).setCell ⟨b,1,none⟩ y)=.ok (.tuple #[.agg #[x,y],e]) ((W.setCell ⟨b,0,none⟩ x).setCell ⟨b,1,none⟩ y):=by
 have hb:=set_two (x:=x) (y:=y) h;have k0:=aa (o:=0) hb rfl;have k1:=aa (o:=1) hb rfl;generalize (W.setCell ⟨b,0,none⟩ x).setCell ⟨b,1,none⟩ y=W2 at k0 k1;simp [results,Tryz.results70,go_sem,ht,k0,k1,h5]
theorem CallG.polled {w w1:World}{kb ub wb:Nat}{S:KS}{V:KerV}{c:Cl}{av tv:Value}{A:Option Addr}{cap:Nat}{th root:Int}(h:CallG w kb ub S V c av tv (.slice A 0 cap) th root)(hf:Fr w w1 (fun _=>False))(hwb:w.heap.size<=wb)(hb:w1.heap[wb]?=some (.cells #[.pointer (some ⟨kb,0,none⟩)] 34 (0,0))):
 Calls Tryz.prog 57 #[.pointer (some ⟨ub,0,none⟩),.func (.func 92) #[] #[.pointer (some ⟨wb,0,none⟩)]] w1 fun e w'=>e=.returned (.int .i64 0)/\∃V',CallG w' kb ub (worked S) V' c av tv (.slice A 0 cap) th root/\Fr w w' (V.fd kb)/\(∀k,V'.fd kb k->V.fd kb k\/w1.heap.size<=k)/\Fr w1 w' (V.fd kb):=by
 have h1:=h.frame hf;refine (polled_workG h1.kd h1.good h1.turn.cbv h1.ub hb (fun e=>by have:=h.kd.lt e;omega)).mono ?_;rintro e w' ⟨he,V',k2,f2,s2⟩;exact ⟨he,V',h1.past k2 h.good.worked.1 f2 s2,(hf.mono (fun _=>False.elim)).step f2 (fun _ e=>.inl e),s2,f2⟩
theorem findToTake_any (kb ub:Nat)(S:KS)(V:KerV)(c:Cl)(av tv:Value)(th root:Int)(A:Option Addr)(cap:Nat)(w:World)(h:CallG w kb ub S V c av tv (.slice A 0 cap) th root):
 Calls Tryz.prog 70 #[.pointer (some ⟨ub,0,none⟩)] w fun e w'=>e=toTake (worked S).K (ao (worked S).K root c.at_)/\KGOut w kb V (worked S) w':=by
 have hult:=h.turn.lt;obtain ⟨S1,hS1⟩:∃S1,Hid (S1=worked S):=⟨_,rfl⟩;rw [<- hS1.out];obtain ⟨ans,hans⟩:∃ans,Hid (toTake S1.K (ao S1.K root c.at_)=ans):=⟨_,rfl⟩;rw [hans.out];have hf0:=(Fr.refl w (fun _=>False)).alloc (.cells #[.int .i64 0,.int .i64 0] 71);have cu:=(h.turn.frame hf0 id).ck;obtain ⟨hf1,hs1,hb0,hb1⟩:=box_two (w:=w) (a:=.cells #[.int .i64 0,.int .i64 0] 71) (b:=.cells #[.pointer (some ⟨kb,0,none⟩)] 34) rfl;have hpo:=h.polled hf1 (by omega) hb1;rw [<- hS1.out] at hpo;go_enter Tryz.func70,Tryz.ntmps70
 go_wp2_with (first
  |(go_at_call 58;refine (workOff_any kb _).mono ?_;rintro e w' ⟨rfl,rfl⟩)
  |(go_at_call 57;refine hpo.mono ?_;rintro e W1 ⟨rfl,V1,h1,hF1,hs1',hF1'⟩;have cat1:=h1.turn.cat))
 refine h1.call.find.mono ?_;rintro e W2 ⟨rfl,hf2⟩;have hbw:=hF1'.same hb0 (fun e=>by have:=h.kd.lt e;omega);have hs3:∀k,V1.fd kb k->V.fd kb k\/w.heap.size<=k:=fun k hk=>(hs1' k hk).imp id (fun e=>by omega)
 have hn1:¬V1.fd kb w.heap.size:=fun e=>by
  rcases hs1' _ e with e | e
  ·have:=h.kd.lt e;omega
  ·omega
 have houts:∀W,Fr W1 W (fun k=>k=w.heap.size)->KGOut w kb V S1 W:=fun W hW=>by
  have h2:=h.kd.gl.lt;exact ⟨V1,h1.kd.frame hW (fun k hk e=>hn1 (e▸hk)) (fun k e=>by omega),hF1.step hW (fun k e=>.inr (by omega)),hs3⟩
 have heq:V1.ker=S1.K:=h1.kd.kd.eq;clear cu hpo cat1 hf0 hs1 hb1 hf1 hF1' hb0 hs3 hF1 hn1;rw [heq];cases hfi:ao S1.K root c.at_ with
 | none=>
  have ha:=hans.out;rw [hfi] at ha;clear hans;subst ha;unfold au gup;go_wp2;exact ⟨rfl,rfl,houts _ (hf2.mono (fun _=>False.elim))⟩
 | some s=>
  have ha:=hans.out;rw [hfi] at ha;clear hans hfi;unfold au slotV;have hbw2:=hf2.same hbw id;go_wp2_with fail
  generalize hW3:W2.alloc _=W3;have hf3:Fr W2 W3 (fun _=>False):=by rw [<- hW3];exact (Fr.refl _ _).alloc _
  have hbs:W3.heap[W2.heap.size]?=some (.cells #[.int .i64 s.node,.int .i64 s.index] 71 (0,0)):=by rw [<- hW3];exact heap_alloc_new _ _
  clear hW3;have hF3:=hf2.step hf3 (fun _=>False.elim);have hb3:=hf3.same hbw2 id;have h3:=h1.frame hF3;have c1:=h3.turn.ck;have c2:=h3.kd.kd.ker.ch;have s0:=aa (o:=0) hbs rfl;have s1:=aa (o:=1) hbs rfl;have hrun:=ar (h3.kd.kd.ker.frame ((Fr.refl W3 (fun _=>False)).drew) (fun _ _=>id)) s true;rw [heq] at hrun;simp only [if_true] at hrun;have hd:Fr W3 W3.drew (fun _=>False):=(Fr.refl _ _).drew;have hF4:=hF3.step hd (fun _=>False.elim);have hb4:=hd.same hb3 id;have r0:=aa (o:=0) hb3 rfl;have r1:=aa (o:=1) hb3 rfl;have z0:=ab (o:=0) hb3;have z1:=ab (o:=1) hb3;have hlt2:w.heap.size<W3.heap.size:=(Array.getElem?_eq_some_iff.1 hb3).1;have hne:¬w.heap.size=W2.heap.size:=by have:=(Array.getElem?_eq_some_iff.1 hbw2).1;omega
  clear hbw hbw2 h3 hf3 heq hb3 h1 hbs;cases hk:(S1.K.held s).isSome with
  | true=>
   rw [hk] at hrun;have ha2:ans=.returned (.tuple #[.agg #[.int .i64 s.node,.int .i64 s.index],.int .i64 0]):=by rw [<- ha];simp [toTake,hk]
   clear ha;generalize capV (S1.K.held s)=hv' at hrun;go_region_held3 (fun w'=>w'.cell? ⟨ub,0,none⟩=some (.pointer (some ⟨kb,0,none⟩))/\w'.cell? ⟨kb,1024,none⟩=some (.map (some V1.hb))/\w'.cell? ⟨W2.heap.size,0,none⟩=some (.int .i64 s.node)/\w'.cell? ⟨W2.heap.size,1,none⟩=some (.int .i64 s.index)) (go_keep) (fail)
   clear hrun;go_wp2;refine bodyPost_ret (v:=.tuple #[.agg #[.int .i64 s.node,.int .i64 s.index],.int .i64 0]) (toTake_results hb4 rfl rfl) rfl ⟨by first | exact ha2.symm | rfl,houts _ ((hF4.mono (fun _=>False.elim)).step (fr_two _ _ _ _) (fun k hk=>.inl hk))⟩
  | false=>
   rw [hk] at hrun;have ha2:ans=.returned (.tuple #[.agg #[.int .i64 0,.int .i64 0],.int .i64 4]):=by rw [<- ha];simp [toTake,hk]
   clear ha;generalize capV (S1.K.held s)=hv' at hrun;go_region_held3 (fun w'=>w'.cell? ⟨ub,0,none⟩=some (.pointer (some ⟨kb,0,none⟩))/\w'.cell? ⟨kb,1024,none⟩=some (.map (some V1.hb))/\w'.cell? ⟨W2.heap.size,0,none⟩=some (.int .i64 s.node)/\w'.cell? ⟨W2.heap.size,1,none⟩=some (.int .i64 s.index)) (go_keep) (fail)
   clear hrun;go_wp2;refine bodyPost_ret (v:=.tuple #[.agg #[.int .i64 0,.int .i64 0],.int .i64 4]) (toTake_results hb4 rfl rfl) rfl ⟨by first | exact ha2.symm | rfl,houts _ ((hF4.mono (fun _=>False.elim)).step (fr_two _ _ _ _) (fun k hk=>.inl hk))⟩
def GotG (w:World)(kb:Nat)(V:KerV)(r:Int×KS)(e:Ending)(w':World):Prop:=(e=.returned (.tuple #[.int .i64 0,.int .i64 r.1])\/e=gup r.1)/\KGOut w kb V r.2 w'
theorem KGOut.join {w w1 w2:World}{kb:Nat}{V V1:KerV}{S:KS}(hf:Fr w w1 (V.fd kb))(hs:∀k,V1.fd kb k->V.fd kb k\/w.heap.size<=k)(h:KGOut w1 kb V1 S w2):KGOut w kb V S w2:=by
 obtain ⟨V2,k2,f2,s2⟩:=h;refine ⟨V2,k2,hf.step f2 hs,fun k hk=>?_⟩
 rcases s2 k hk with e | e
 ·exact hs k e
 ·exact .inr (Nat.le_trans hf.size e)
theorem tdelete_any (kb ub:Nat)(S:KS)(V:KerV)(c:Cl)(av tv:Value)(th root:Int)(A:Option Addr)(cap:Nat)(w:World)(h:CallG w kb ub S V c av tv (.slice A 0 cap) th root):
 Calls Tryz.prog 38 #[.pointer (some ⟨ub,0,none⟩)] w (GotG w kb V (takenK (worked S) root c (fun S s=>worked (ci S s)))):=by
 have hgood:=h.good.worked.1;have hft:=findToTake_any kb ub S V c av tv th root A cap w h;obtain ⟨S1,hS1⟩:∃S1,Hid (S1=worked S):=⟨_,rfl⟩;rw [<- hS1.out] at hft hgood ⊢;obtain ⟨r,hr⟩:∃r,Hid (takenK S1 root c (fun S s=>worked (ci S s))=r):=⟨_,rfl⟩
 rw [hr.out];cases hfi:ao S1.K root c.at_ with
 | none=>
  have ha:r=(2,S1):=by rw [<- hr.out];simp [takenK,hfi]
  subst ha;rw [hfi] at hft;simp only [toTake] at hft;clear hr;go_enter Tryz.func38,Tryz.ntmps38
  go_wp2_with (go_at_call 70;refine hft.mono ?_;rintro e W1 ⟨rfl,ho1⟩;unfold gup)
  exact ⟨rfl,.inr rfl,ho1⟩
 | some s=>
  rw [hfi] at hft;cases hk:S1.K.held s with
  | none=>
   have ha:r=(4,S1):=by rw [<- hr.out];simp [takenK,hfi,hk]
   subst ha;simp only [toTake,hk,Option.isSome_none,Bool.false_eq_true,if_false] at hft;clear hr;go_enter Tryz.func38,Tryz.ntmps38
   go_wp2_with (go_at_call 70;refine hft.mono ?_;rintro e W1 ⟨rfl,ho1⟩)
   go_ret2;have hf:=(Fr.refl W1 (fun _=>False)).alloc (.cells #[.int .i64 0,.int .i64 0] 71);obtain ⟨V1,k1,f1,s1⟩:=ho1;exact ⟨.inl rfl,V1,k1.frame hf (fun _ _=>id) (fun _=>False.elim),f1.step hf (fun _=>False.elim),s1⟩
  | some k=>
   have ha:r=(0,worked (ci S1 s)):=by rw [<- hr.out];simp [takenK,hfi,hk]
   have Ha:Hid (r=(0,worked (ci S1 s))):=ha;clear ha hr;simp only [toTake,hk,Option.isSome_some,if_true] at hft;have htk:∀W1,KGOut w kb V S1 W1->Calls Tryz.prog 71 #[.pointer (some ⟨ub,0,none⟩),.agg #[.int .i64 s.node,.int .i64 s.index]] (W1.alloc (.cells #[.int .i64 s.node,.int .i64 s.index] 71)) fun e w'=>e=.returned (.int .i64 0)/\KGOut w kb V (worked (ci S1 s)) w':=by
    rintro W1 ⟨V1,k1,f1,s1⟩;have h1:=h.past k1 hgood f1 s1;have h2:=h1.frame ((Fr.refl W1 (fun _=>False)).alloc (.cells #[.int .i64 s.node,.int .i64 s.index] 71));refine (take_any kb ub S1 V1 c av tv th root A cap s k _ h2.kd hgood h2.turn h2.ub hk).mono ?_;rintro e w' ⟨he,ho⟩;exact ⟨he,KGOut.join f1 s1 (KGOut.of ((Fr.refl W1 (fun _=>False)).alloc _) ho)⟩
   clear hk hfi;go_enter Tryz.func38,Tryz.ntmps38
   go_wp2_with (first
    |(go_at_call 70;refine hft.mono ?_;rintro e W1 ⟨rfl,ho1⟩)
    |(go_at_call 71;refine (htk W1 ho1).mono ?_;rintro e W2 ⟨rfl,ho2⟩))
   go_ret2;rw [Ha.out];exact ⟨.inl rfl,ho2⟩
structure RevInv (W:World)(kb ub:Nat)(V:KerV)(c:Cl)(av tv:Value)(A:Option Addr)(cap:Nat)(th root:Int)(s:Slot)(S0:KS)(k:Nat)(wr:World)(S:KS)(V':KerV)(R:RS):Prop where
 ag:Ag R S
 len:R.R.L.length<=k
 left:(cj k S s []).2.1=S0
 call:CallG wr kb ub S V' c av tv (.slice A 0 cap) th root
 fr:Fr W wr (V.fd kb)
 sub:∀k,V'.fd kb k->V.fd kb k\/W.heap.size<=k
theorem trevoke_any (kb ub:Nat)(S:KS)(V:KerV)(c:Cl)(av tv:Value)(th root:Int)(A:Option Addr)(cap:Nat)(w:World)(h:CallG w kb ub S V c av tv (.slice A 0 cap) th root):
 Calls Tryz.prog 39 #[.pointer (some ⟨ub,0,none⟩)] w (GotG w kb V (takenK (worked S) root c (fun S s=>(cj F1 S s []).2.1))):=by
 have hgood:=h.good.worked.1;have hft:=findToTake_any kb ub S V c av tv th root A cap w h;obtain ⟨S1,hS1⟩:∃S1,Hid (S1=worked S):=⟨_,rfl⟩;rw [<- hS1.out] at hft hgood ⊢;obtain ⟨r,hr⟩:∃r,Hid (takenK S1 root c (fun S s=>(cj F1 S s []).2.1)=r):=⟨_,rfl⟩
 rw [hr.out];cases hfi:ao S1.K root c.at_ with
 | none=>
  have ha:r=(2,S1):=by rw [<- hr.out];simp [takenK,hfi]
  subst ha;rw [hfi] at hft;simp only [toTake] at hft;clear hr;go_enter Tryz.func39,Tryz.ntmps39
  go_wp2_with (go_at_call 70;refine hft.mono ?_;rintro e W1 ⟨rfl,ho1⟩;unfold gup)
  exact ⟨rfl,.inr rfl,ho1⟩
 | some s=>
  rw [hfi] at hft;cases hk:S1.K.held s with
  | none=>
   have ha:r=(4,S1):=by rw [<- hr.out];simp [takenK,hfi,hk]
   subst ha;simp only [toTake,hk,Option.isSome_none,Bool.false_eq_true,if_false] at hft;clear hr;go_enter Tryz.func39,Tryz.ntmps39
   go_wp2_with (go_at_call 70;refine hft.mono ?_;rintro e W1 ⟨rfl,ho1⟩)
   go_ret2;have hf:=(Fr.refl W1 (fun _=>False)).alloc (.cells #[.int .i64 0,.int .i64 0] 71);obtain ⟨V1,k1,f1,s1⟩:=ho1;exact ⟨.inl rfl,V1,k1.frame hf (fun _ _=>id) (fun _=>False.elim),f1.step hf (fun _=>False.elim),s1⟩
  | some k=>
   obtain ⟨S0,HS0⟩:∃S0,Hid (S0=(cj F1 S1 s []).2.1):=⟨_,rfl⟩;have Ha:Hid (r=(0,S0)):=by show _=_;rw [HS0.out,<- hr.out];simp [takenK,hfi,hk]
   simp only [toTake,hk,Option.isSome_some,if_true] at hft;obtain ⟨R1,hag1⟩:=hgood;have hsi:0<=s.index:=(hag1.core.inN s k hk).1;clear hr hk hfi;go_enter Tryz.func39,Tryz.ntmps39
   go_wp2_with (go_at_call 70;refine hft.mono ?_;rintro e W1 ⟨rfl,ho1⟩)
   clear hft;obtain ⟨V1,k1,f1,s1⟩:=ho1;have hf2:=(Fr.refl W1 (fun _=>False)).alloc (.cells #[.int .i64 s.node,.int .i64 s.index] 71);have h2:=(h.past k1 ⟨R1,hag1⟩ f1 s1).frame hf2;have hbs:=heap_alloc_new W1 (.cells #[.int .i64 s.node,.int .i64 s.index] 71);have hz2:W1.heap.size<(W1.alloc (.cells #[.int .i64 s.node,.int .i64 s.index] 71)).heap.size:=by simp
   have hn2:¬V1.fd kb W1.heap.size:=fun e=>by have:=k1.lt e;omega
   have hjoin:∀W,KGOut (W1.alloc (.cells #[.int .i64 s.node,.int .i64 s.index] 71)) kb V1 S0 W->KGOut w kb V S0 W:=fun W ho=>KGOut.join f1 s1 (KGOut.of hf2 ho)
   generalize W1.alloc (.cells #[.int .i64 s.node,.int .i64 s.index] 71)=W2 at hf2 h2 hbs hz2 hjoin ⊢;have hlenF:R1.R.L.length<=F1:=by have:=hag1.core.len;rw [F1_eq];omega
   clear h f1 s1 hf2 k1;go_loopg [23] F1 (fun k _ wr=>∃S' V' R,RevInv W2 kb ub V1 c av tv A cap th root s S0 k wr S' V' R)
   case atStart=>exact ⟨S1,V1,R1,hag1,hlenF,HS0.out.symm,h2,Fr.refl _ _,fun k hk=>.inl hk⟩
   case round=>
    obtain ⟨S',V',R,hI⟩:=hrel;obtain ⟨hag,hlen,hleft,hcall,hfr,hsub⟩:=hI;have hbr:=hfr.same hbs hn2;have hlt0:=(Array.getElem?_eq_some_iff.1 hbr).1;have hlu:=hcall.turn.lt;have b0:=aa (o:=0) hbr rfl;have b1:=aa (o:=1) hbr rfl;have cu:=hcall.turn.ck;have ct:=hcall.kd.kd.ker.ct;have hd1:=(Fr.refl wr (fun _=>False)).drew;have hcd:=hcall.frame hd1;have hch:=hasChildren_any V' kb s wr.drew hcd.kd.kd.ker;rw [hcall.kd.kd.eq] at hch;go_upto_region 4 with fail
    go_cut [23] (fun v wx=>v=.bool (ax S'.K s)/\Fr wr wx (fun _=>False))
    case first=>
     go_region_law (go_simp;go_at_call 62;refine hch.mono ?_;rintro e W3 ⟨rfl,hf3⟩)
     all_goals
      go_wp2;go_meet;case rel=>exact ⟨rfl,hd1.step hf3 (fun _=>False.elim)⟩
    case rest=>
    obtain ⟨rfl,hf3⟩:=hcut;obtain ⟨W3,hWW⟩:∃W3,W3=wc:=⟨wc,rfl⟩;subst hWW;clear hch b0 b1 cu ct hcd hd1;have hc3:=hcall.frame hf3;cases hkd:ax S'.K s with
    | false=>
     have hfin:Hid (S'=S0):=by show _=_;rw [<- hleft,revokeK_stop _ hkd]
     clear hleft hlen hag;go_wp2;go_ret2;refine ⟨.inl (by rw [Ha.out];rfl),?_⟩;rw [Ha.out];exact hjoin _ ⟨V',by rw [<- hfin.out];exact hc3.kd,hfr.step hf3 (fun _=>False.elim),hsub⟩
    | true=>
     obtain ⟨c1,x,g1,g2,g3,R',g4,g5,g6⟩:=hag.revStep hsi hkd;obtain ⟨n,hn⟩:∃n,gk=n+1:=by
      cases gk with
      | zero=>omega
      | succ n=>exact ⟨n,rfl⟩
     have hleft2:(cj n (worked (ci S' (lastC S'.K s))) s []).2.1=S0:=by rw [<- hleft,hn,g6]
     have hlen2:R'.R.L.length<=n:=by omega
     have hlast:∃y,ak s V'.M=some y/\y.kids.getLast?=some (lastC S'.K s):=by
      have:=hcall.kd.kd.eq;rw [<- this] at g2;simp only [KerV.ker,bu] at g2;cases hl:ak s V'.M with
      | none=>rw [hl] at g2;cases g2
      | some y=>rw [hl] at g2;cases g2;exact ⟨y,rfl,g3⟩
     obtain ⟨y,hy1,hy2⟩:=hlast;generalize lastC S'.K s=t at g1 hleft2 hy2 g4;have hd4:=(Fr.refl W3 (fun _=>False)).drew;have hc4:=hc3.frame hd4;have hlc:=lastChild_any V'.M V'.tb s t y W3.drew hc4.kd.kd.ker.tree hy1 hy2;have htk:∀W5,Fr W3.drew W5 (fun _=>False)->Calls Tryz.prog 71 #[.pointer (some ⟨ub,0,none⟩),.agg #[.int .i64 t.node,.int .i64 t.index]] W5 fun e w'=>e=.returned (.int .i64 0)/\KGOut W3 kb V' (worked (ci S' t)) w':=fun W5 hf5=>by
      have h5:=hc4.frame hf5;refine (take_any kb ub S' V' c av tv th root A cap t c1 W5 h5.kd h5.good h5.turn h5.ub g1).mono ?_;rintro e w' ⟨he,ho⟩;exact ⟨he,KGOut.of (hd4.step hf5 (fun _=>False.elim)) ho⟩
     have hbc:=hf3.same hbr id;have b0:=aa (o:=0) hbc rfl;have b1:=aa (o:=1) hbc rfl;have cu:=hc3.turn.ck;have ct:=hc3.kd.kd.ker.ct;go_upto_region 5 with fail
     go_cut [6] (fun v wx=>v=.int .i64 0/\KGOut W3 kb V' (worked (ci S' t)) wx)
     case first=>
      go_region_law (first
       |(go_simp;go_at_call 72;refine hlc.mono ?_;rintro e W5 ⟨rfl,hf5⟩)
       |(go_simp;go_at_call 71;refine (htk _ hf5).mono ?_;rintro e W6 ⟨rfl,ho6⟩))
      all_goals
       go_wp2;go_meet;case rel=>exact ⟨rfl,ho6⟩
     case rest=>
     obtain ⟨rfl,V6,k6,f6,s6⟩:=hcut;clear hlc htk b0 b1 cu ct hc4 hd4 hleft;have hc6:=hc3.past k6 ⟨R',g4⟩ f6 s6;have hF3:Fr W2 W3 (V1.fd kb):=hfr.step hf3 (fun _=>False.elim);have hI6:RevInv W2 kb ub V1 c av tv A cap th root s S0 n wc (worked (ci S' t)) V6 R':=by
      refine ⟨g4,hlen2,hleft2,hc6,hF3.step f6 hsub,fun k hk=>?_⟩
      rcases s6 k hk with e | e
      ·exact hsub k e
      ·exact .inr (Nat.le_trans hF3.size e)
     clear hc6 hF3 hc3 hcall;go_wp2;go_roundg n
     case measure=>omega
     case rel=>exact ⟨_,V6,R',hI6⟩
end Go.Proofs.YtdpjgflemddekaaGreatDoor

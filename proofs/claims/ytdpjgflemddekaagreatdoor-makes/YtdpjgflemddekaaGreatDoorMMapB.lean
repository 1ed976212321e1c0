/- A range over a map that is known whole. -/
import Derived.Test.YtdpjgflemddekaaGreatDoorMCodeK
import Derived.Test.YtdpjgflemddekaaGreatDoorMTakA
import Derived.Maps.RangeRun
import Derived.Deep.RegionLaw
set_option maxRecDepth 100000
set_option maxHeartbeats 1000000
namespace Go.Proofs.YtdpjgflemddekaaGreatDoor
open Go.RowKit
open Go.ChangeMaps (setBlock)
section
variable {κ α:Type} {P:Program} {val:κ->Value} {enc:α->Value}
def my (w:World)(ib b:Nat)(val:κ->Value)(enc:α->Value)(m rest:List (κ×α)):Prop:=
 ∃seen es clock,w.heap[ib]?=some (.mapIter (some b) clock seen clock)/\w.heap[b]?=some (.map es clock)/\kv es.toList=jq val enc m/\MapKept.Stamped es clock/\kv (leftOf es seen).toList=jq val enc rest
theorem my.frame {w w':World}{ib b:Nat}{m rest:List (κ×α)}{S:Nat->Prop}(h:my w ib b val enc m rest)(hf:Fr w w' S)(hi:¬S ib)(hb:¬S b):my w' ib b val enc m rest:=by
 obtain ⟨seen,es,clock,h1,h2,h3⟩:=h;exact ⟨seen,es,clock,hf.same h1 hi,hf.same h2 hb,h3⟩
theorem ei.range_run {w:World}{b:Nat}{m:List (κ×α)}{t kt et:TypeId}(h:ei w b val enc m)(ht:P.underlying t=some (.map kt et)):
 ∃w',(Instr.range t (.map (some b))).run P w=.ok (.pointer (some ⟨w.heap.size,0,none⟩)) w'/\my w' w.heap.size b val enc m m/\Fr w w' (fun _=>False)/\w'.heap.size=w.heap.size+1:=by
 obtain ⟨es,clock,hb,hkv,hsd⟩:=h.blk;have hlt:=h.lt;refine ⟨w.alloc (.mapIter (some b) clock #[] clock),run_range_map w t kt et b es clock ht hb,⟨#[],es,clock,heap_alloc_new _ _,by rw [heap_alloc_old w _ hlt];exact hb,hkv,hsd,?_⟩,(Fr.refl _ _).alloc _,by simp⟩;rw [show leftOf es #[]=es by simp [leftOf]];exact hkv
theorem bm6 {es:List MapEntry}(hn:(es.map (·.born)).Nodup){e:MapEntry}{seen:Array Nat}{A B:List MapEntry}(h:es.filter (fun x=>!seen.contains x.born)=A++e :: B):
 es.filter (fun x=>!(seen.push e.born).contains x.born)=A++B:=by
 have h1:es.filter (fun x=>!(seen.push e.born).contains x.born)=(es.filter (fun x=>!seen.contains x.born)).filter (fun x=>!(x.born==e.born)):=by
  rw [List.filter_filter];apply List.filter_congr;intro x _;rw [Array.contains_push];cases (x.born==e.born)<;>simp
 rw [h1,h,List.filter_append,List.filter_cons];have hn2:((A++e :: B).map (·.born)).Nodup:=by rw [<- h];exact ((List.filter_sublist).map _).nodup hn
 rw [List.map_append,List.map_cons,List.nodup_append] at hn2;obtain ⟨_,q2,q3⟩:=hn2;rw [List.nodup_cons] at q2;have hA:A.filter (fun x=>!(x.born==e.born))=A:=List.filter_eq_self.2 (fun x hx=>by
  have:=q3 x.born (List.mem_map.2 ⟨x,hx,rfl⟩) e.born (by simp);simpa using this)
 have hB:B.filter (fun x=>!(x.born==e.born))=B:=List.filter_eq_self.2 (fun x hx=>by
  have:x.born≠e.born:=fun e2=>q2.1 (by rw [<- e2];exact List.mem_map.2 ⟨x,hx,rfl⟩)
  simpa using this)
 rw [hA,hB];simp
theorem my.next_run {w:World}{ib b:Nat}{m rest:List (κ×α)}(h:my w ib b val enc m rest)(hne:ib≠b)(ty:TypeId):
 (rest=[]/\(Instr.next (.pointer (some ⟨ib,0,none⟩)) false ty).run P w=.ok (.tuple #[.bool false]) w)\/
 ∃pre post k v w',rest=pre++(k,v) :: post/\(Instr.next (.pointer (some ⟨ib,0,none⟩)) false ty).run P w=.ok (.tuple #[.bool true,val k,enc v]) w'/\
  (Instr.entry (.pointer (some ⟨ib,0,none⟩))).run P w'=.ok (.tuple #[val k,enc v]) w'/\my w' ib b val enc m (pre++post)/\Fr w w' (fun x=>x=ib)/\w'.heap.size=w.heap.size:=by
 obtain ⟨seen,es,clock,h1,h2,h3,h4,h5⟩:=h;rcases run_next_at (P:=P) w ty ib b clock clock seen es clock h1 h2 h4.1 (Nat.le_refl _) with ⟨h0,hr⟩ | ⟨e,he,w1,hw1,hr⟩
 ·refine .inl ⟨?_,hr⟩;have:(leftOf es seen).toList=[]:=List.eq_nil_of_length_eq_zero (by simpa using h0);rw [this] at h5;cases rest with
  | nil=>rfl
  | cons x l=>simp [kv,jq] at h5
 ·obtain ⟨A,B,hAB⟩:=List.append_of_mem he;rw [hAB] at h5;unfold kv jq at h5;rw [List.map_append,List.map_cons] at h5;obtain ⟨pre,r2,hr1,hr2,hr3⟩:=List.map_eq_append_iff.1 h5.symm;obtain ⟨p,post,hr4,hr5,hr6⟩:=List.map_eq_cons_iff.1 hr3;subst hr1 hr4;simp only [Prod.mk.injEq] at hr5;have hfl:es.toList.filter (fun x=>!seen.contains x.born)=A++e :: B:=by rw [<- hAB];simp [leftOf]
  have hmem:e∈es.toList:=by
   have:e∈es.toList.filter (fun x=>!seen.contains x.born):=by rw [hfl];simp
   exact (List.mem_filter.1 this).1
  have h1':w1.heap[ib]?=some (.mapIter (some b) clock seen clock):=by rcases hw1 with rfl | rfl<;>exact h1
  have h2':w1.heap[b]?=some (.map es clock):=by rcases hw1 with rfl | rfl<;>exact h2
  have hb':(setBlock w1 ib (.mapIter (some b) clock (seen.push e.born) clock)).heap[b]?=some (.map es clock):=by
   simp only [setBlock];rw [Array.getElem?_setIfInBounds_ne hne];exact h2'
  have hi':(setBlock w1 ib (.mapIter (some b) clock (seen.push e.born) clock)).heap[ib]?=some (.mapIter (some b) clock (seen.push e.born) clock):=by
   have hlt:ib<w1.heap.size:=(Array.getElem?_eq_some_iff.1 h1').1;simp only [setBlock];rw [Array.getElem?_setIfInBounds_self_of_lt hlt]
  have hf1:Fr w w1 (fun x=>x=ib):=by rcases hw1 with rfl | rfl;exact Fr.refl _ _;exact (Fr.refl _ _).drew
  have hs1:w1.heap.size=w.heap.size:=by rcases hw1 with rfl | rfl<;>rfl
  refine .inr ⟨pre,post,p.1,p.2,_,rfl,?_,?_,⟨seen.push e.born,es,clock,hi',hb',h3,h4,?_⟩,hf1.step (nj _ _ _) (fun _ h=>.inl h),by simp [setBlock,hs1]⟩
  ·rw [hr,<- hr5.1,<- hr5.2]
  ·rw [run_entry_at _ ib b clock seen es clock e hi' hb' hmem h4.2.1,<- hr5.1,<- hr5.2]
  ·have hl:=bm6 h4.2.1 hfl;have:(leftOf es (seen.push e.born)).toList=A++B:=by rw [<- hl];simp [leftOf]
   rw [this];unfold kv jq;rw [List.map_append,List.map_append,hr2,hr6]
end
theorem bf8 (c:KCap):c.told.1=c.ty/\c.told.2.1=c.base:=by cases c<;>exact ⟨rfl,rfl⟩
def xw (H rest:List (Slot×KCap))(c:KCap):Prop:=(∀p∈rest,p∈H)/\∀p∈H,p∉rest->¬(p.2.ty=c.ty/\p.2.base=c.base)
theorem xw.next {H pre post:List (Slot×KCap)}{c:KCap}{x:Slot×KCap}(h:xw H (pre++x :: post) c)(hx:¬(x.2.ty=c.ty/\x.2.base=c.base)):xw H (pre++post) c:=by
 refine ⟨fun p hp=>h.1 p ?_,fun p hp hn=>?_⟩
 ·simp only [List.mem_append,List.mem_cons] at hp ⊢;rcases hp with hp | hp
  ·exact .inl hp
  ·exact .inr (.inr hp)
 ·by_cases e:p=x
  ·rw [e];exact hx
  ·refine h.2 p hp (fun h2=>hn ?_);simp only [List.mem_append,List.mem_cons,e,false_or] at h2 ⊢;exact h2
theorem am4 (kb:Nat)(V:ah)(c:KCap)(w:World)(h:aq w kb V):
 Calls Tryz.prog 111 #[.pointer (some ⟨kb,0,none⟩),c.val] w fun e w'=>∃b,e=.returned (.bool b)/\(b=true ↔ yg V.ker c.ty c.base)/\Fr w w' (fun _=>False):=by
 obtain ⟨t1,t2⟩:=bf8 c;go_enter Tryz.func111,Tryz.ntmps111
 go_upto_region 2 with (go_at_call 24;refine (ab0 c _).mono ?_;rintro e W1 ⟨rfl,hf1⟩;simp only [ao5])
 generalize hW2:World.alloc _ _=W2;have hf2:Fr w W2 (fun _=>False):=by rw [<- hW2];exact hf1.alloc _
 have hbo:W2.heap[W1.heap.size]?=some (.cells #[.int .i64 c.ty,.int .i64 c.base,.int .i64 c.told.2.2.1,.int .i64 c.told.2.2.2.1,.int .i64 c.told.2.2.2.2.1,.int .i64 c.told.2.2.2.2.2] 46 (0,0)):=by rw [<- hW2];exact heap_alloc_new _ _
 clear hW2;have h2:=h.frame hf2 (fun _ _=>id);have hc2:=h2.ch;obtain ⟨W3,hrg,hit3,hf3,hs3⟩:=h2.held.range_run (P:=Tryz.prog) Tryz.underlying59;go_wp2;clear hrg;have h3:=h2.frame hf3 (fun _ _=>id);have hbo3:=hf3.same hbo id;have hf03:Fr w W3 (fun _=>False):=hf2.step hf3 (fun _=>False.elim);have hlt3:=h2.held.lt;have hob:W1.heap.size<W2.heap.size:=(Array.getElem?_eq_some_iff.1 hbo).1;have hsz2:=hf2.size;clear hc2 hbo h2 hf2 hf3 hf1 h;go_loopg [4] (V.H.length) (fun k _ w'=>∃rest,Aside (rest.length=k/\my w' W2.heap.size V.hb Slot.val KCap.val V.H rest/\xw V.H rest c/\Fr W3 w' (fun k=>k=W2.heap.size)))
 case atStart=>exact ⟨V.H,⟨rfl,hit3,⟨fun _ h=>h,fun p hp hn=>absurd hp hn⟩,Fr.refl _ _⟩⟩
 case round=>
  obtain ⟨rest,hA⟩:=hrel;obtain ⟨hk,hit,hny,hfr⟩:=hA.out;clear hA hit3;have hfw:Fr w wr (fun _=>False):=hf03.step hfr (fun k hk=>.inr (by omega))
  rcases hit.next_run (P:=Tryz.prog) (by omega) 0 with ⟨h0,hr⟩ | ⟨pre,post,k,v,w1,hrest,hr,he,hit1,hF1,hs1⟩
  ·have hno:¬yg V.ker c.ty c.base:=by
    rintro ⟨s,c',hc',h1,h2⟩;exact hny.2 (s,c') (pl hc') (by rw [h0];simp) ⟨h1,h2⟩
   clear hny hit h0 hk;go_wp2;go_ret;exact ⟨false,rfl,by simp [hno],hfw⟩
  ·have hbo1:=hF1.same (hfr.same hbo3 (by omega)) (by omega);have hfw1:Fr w w1 (fun _=>False):=hfw.step hF1 (fun k hk=>.inr (by omega))
   have hmem:(k,v)∈V.H:=hny.1 _ (by rw [hrest];simp);obtain ⟨u1,u2⟩:=bf8 v;have HK:Hid (rest.length=gk):=hk;clear hk hit;have hrl:rest.length=(pre++post).length+1:=by rw [hrest];simp;omega
   go_upto_region 6 with (go_at_call 24;refine (ab0 v _).mono ?_;rintro e W5 ⟨rfl,hf5⟩;simp only [ao5])
   generalize hW6:World.alloc _ _=W6;have hf6:Fr w1 W6 (fun _=>False):=by rw [<- hW6];exact hf5.alloc _
   have hb6:W6.heap[W5.heap.size]?=some (.cells #[.int .i64 v.ty,.int .i64 v.base,.int .i64 v.told.2.2.1,.int .i64 v.told.2.2.2.1,.int .i64 v.told.2.2.2.2.1,.int .i64 v.told.2.2.2.2.2] 46 (0,0)):=by rw [<- hW6];exact heap_alloc_new _ _
   clear hW6;have hbo6:=hf6.same hbo1 id;have o0:=aa (o:=0) hbo6 rfl;have o1:=aa (o:=1) hbo6 rfl;have p0:=aa (o:=0) hb6 rfl;have p1:=aa (o:=1) hb6 rfl;have hfw6:Fr w W6 (fun _=>False):=hfw1.step hf6 (fun _=>False.elim);have hit6:=hit1.frame hf6 id id;have hfr6:Fr W3 W6 (fun k=>k=W2.heap.size):=(hfr.step hF1 (fun _ h=>.inl h)).step hf6 (fun _=>False.elim);by_cases hm:v.ty=c.ty/\v.base=c.base
   ·have hyes:yg V.ker c.ty c.base:=⟨k,v,nc h3.held.nodup hmem,hm.1,hm.2⟩;have HM:Hid (v.ty=c.ty/\v.base=c.base):=hm;have d1:(v.ty==c.ty)=true:=by simp [hm.1]
    have d2:(v.base==c.base)=true:=by simp [hm.2]
    clear hm hny hr he;go_wp2;go_ret;exact ⟨true,rfl,by simp [hyes],hfw6⟩
   ·have hny6:xw V.H (pre++post) c:=xw.next (x:=(k,v)) (hrest▸hny) hm;have hme:(pre++post).length<gk:=by have:=HK.out;omega
    by_cases e1:v.ty=c.ty
    ·have d1:(v.ty==c.ty)=true:=by simp [e1]
     have d2:(v.base==c.base)=false:=by simp;exact fun e=>hm ⟨e1,e⟩
     clear hm hny hr he e1 hrl;go_wp2;go_roundg ((pre++post).length)
     case measure=>exact hme
     case rel=>exact ⟨pre++post,⟨rfl,hit6,hny6,hfr6⟩⟩
    ·have d1:(v.ty==c.ty)=false:=by simp [e1]
     clear hm hny hr he e1 hrl;go_wp2;go_roundg ((pre++post).length)
     case measure=>exact hme
     case rel=>exact ⟨pre++post,⟨rfl,hit6,hny6,hfr6⟩⟩
open Go.ChangeMaps (setBlock heap_setBlock_same)
theorem yc {p:MapEntry->Bool}{f:MapEntry->MapEntry}:∀(es:List MapEntry) (j:Nat) (e0:MapEntry),es[j]?=some e0->p e0=false->p (f e0)=false->(es.modify j f).filter p=es.filter p
 | [],_,_,h,_,_=>by simp at h
 | e :: es,0,e0,h,h1,h2=>by
  simp only [List.getElem?_cons_zero,Option.some.injEq] at h;subst h;simp [List.modify_zero_cons,h1,h2]
 | e :: es,j+1,e0,h,h1,h2=>by
  simp only [List.getElem?_cons_succ] at h;simp only [List.modify_succ_cons,List.filter_cons,yc es j e0 h h1 h2]
section
variable {κ α:Type} [DecidableEq κ] {P:Program} {val:κ->Value} {enc:α->Value} {kt et t:TypeId}
theorem my.put_run {w:World}{ib b:Nat}{m rest:List (κ×α)}(h:my w ib b val enc m rest)(hne:ib≠b)(hn:(m.map Prod.fst).Nodup)(K:ad1 P kt val)(ht:P.underlying t=some (.map kt et))(k:κ)(v:α)
 (hin:k∈m.map Prod.fst) (hnr:k∉rest.map Prod.fst) :
 ∃w',(Instr.mapUpdate t (.map (some b)) (val k) (enc v)).run P w=.ok () w'/\my w' ib b val enc (putM k v m) rest/\Fr w w' (fun x=>x=b)/\w'.heap.size=w.heap.size:=by
 obtain ⟨seen,es,clock,h1,hb,hkv,hsd,hl⟩:=h;rcases K.find w k es.toList (vk hkv) with ⟨_,g2⟩ | ⟨j,e0,g1,g2,g3⟩
 ·have:=(ac4 K.inj (k:=k) es.toList m hkv g2).1;obtain ⟨⟨k',v'⟩,hp,rfl⟩:=List.mem_map.1 hin;rw [nc hn hp] at this;cases this
 ·obtain ⟨v0,r1,r2,r3,r4⟩:=am0 K.inj es.toList m j e0 hkv hn g2 g3;have hj:es[j]?=some e0:=by simpa using g2
  have hp0:(!seen.contains e0.born)=false:=by
   cases hq:(!seen.contains e0.born) with
   | false=>rfl
   | true=>
    exfalso
    have hmem:e0∈(leftOf es seen).toList:=by
     simp only [leftOf,Array.toList_filter,List.mem_filter];exact ⟨List.mem_of_getElem? g2,hq⟩
    have:(e0.key,e0.val)∈jq val enc rest:=by rw [<- hl];exact List.mem_map.2 ⟨e0,hmem,rfl⟩
    obtain ⟨p,hp,hpe⟩:=List.mem_map.1 this;have he:val p.1=val k:=by rw [<- g3];exact congrArg Prod.fst hpe
    exact hnr (List.mem_map.2 ⟨p,hp,K.inj _ _ he⟩)
  refine ⟨setBlock w b (.map (es.modify j fun e'=>{e' with key:=val k,val:=enc v}) clock),?_,⟨seen,_,clock,?_,heap_setBlock_same hb _,?_,MapKept.stamped_modify hsd j _ (fun _ _=>rfl) (fun e _ he=>by rw [hj] at he;cases he;exact g3.symm),?_⟩,nj _ _ _,by simp [setBlock]⟩
  ·simp [Instr.mapUpdate,run_underlying ht,MapKept.run_getObj_map hb,K.check,g1,hj,g3,K.stays,MapKept.run_setObj_map _ hb,Result.andThen,setBlock]
  ·simp only [setBlock];rw [Array.getElem?_setIfInBounds_ne (Ne.symm hne)];exact h1
  ·rw [Array.toList_modify];exact r4 v _ (fun _=>⟨rfl,rfl⟩)
  ·rw [<- hl];simp only [leftOf,Array.toList_filter,Array.toList_modify];rw [yc es.toList j e0 g2 hp0 hp0]
omit [DecidableEq κ] in
theorem my.map {w:World}{ib b:Nat}{m rest:List (κ×α)}(h:my w ib b val enc m rest)(hn:(m.map Prod.fst).Nodup):ei w b val enc m:=by
 obtain ⟨seen,es,clock,_,hb,hkv,hsd,_⟩:=h;exact ⟨⟨es,clock,hb,hkv,hsd⟩,hn⟩
end
def ez (D:List (Int×Int)):List Value:=D.flatMap fun d=>[.int .i64 d.1,.int .i64 d.2]
structure KD (w:World)(kb:Nat)(S:KS)(V:ah):Prop where
 ker:aq w kb V
 eq:V.ker=S.K
 d:w.ownsRow 0 116 2 V.dv S.D.length (ez S.D)
 ap:∀k,V.dv.ownBlock=some k->¬V.fp kb k
def ah.fd (kb:Nat)(V:ah)(k:Nat):Prop:=V.fp kb k\/V.dv.ownBlock=some k
theorem KD.frame {w w':World}{kb:Nat}{S:KS}{V:ah}{X:Nat->Prop}(h:KD w kb S V)(hf:Fr w w' X)(hn:∀k,V.fd kb k->¬X k):KD w' kb S V:=
 ⟨h.ker.frame hf (fun k hk=>hn k (.inl hk)),h.eq,hf.owns h.d (fun k hk=>hn k (.inr hk)),h.ap⟩
def ic (w:World)(kb:Nat)(V:ah)(S:KS)(w':World):Prop:=
 ∃V',KD w' kb S V'/\Fr w w' (V.fd kb)/\∀k,V'.fd kb k->V.fd kb k\/w.heap.size<=k
theorem aq.putD {w:World}{kb:Nat}{V:ah}(h:aq w kb V)(x:Value):aq (w.setCell ⟨kb,1027,none⟩ x) kb {V with dv:=x}:=by
 obtain ⟨c,hc,hcc⟩:=h.blk;have hf:Fr w (w.setCell ⟨kb,1027,none⟩ x) (fun k=>k=kb):=Fr.set1 w kb 1027 x;have hlt:1027<c.size:=by rw [hcc.size];decide
 have hget:∀i,i≠1027->(c.setIfInBounds 1027 x)[i]?=c[i]?:=fun i hi=>by rw [Array.getElem?_setIfInBounds_ne (Ne.symm hi)]
 refine ⟨⟨c.setIfInBounds 1027 x,ak w kb 1027 x hc,⟨by simp [hcc.size],fun i hi=>?_,?_,?_,?_,?_,?_,?_⟩⟩,h.held.frame hf (Ne.symm h.kh),h.tree.frame hf ?_,h.nodes.frame hf (Ne.symm h.kn),h.thr.frame hf (Ne.symm h.kr),h.que.frame hf (Ne.symm h.kq),h.ht,h.hn,h.hr,h.hq,h.tn,h.tr,h.tq,h.nr,h.nq,h.rq,h.rows,h.rest.frame hf ?_⟩
 ·rw [hget i (by omega)];exact hcc.w i hi
 ·rw [hget _ (by decide)];exact hcc.h
 ·rw [hget _ (by decide)];exact hcc.t
 ·rw [hget _ (by decide)];exact hcc.n
 ·rw [Array.getElem?_setIfInBounds_self_of_lt hlt]
 ·rw [hget _ (by decide)];exact hcc.r
 ·rw [hget _ (by decide)];exact hcc.q
 ·rintro k (rfl | ⟨s,y,hy,hk⟩) e
  ·exact h.kt e.symm
  ·exact h.rows s y hy (e▸hk)
 ·intro k hk e;obtain ⟨b,q,hq,hk2⟩:=hk;have:=(h.rest.chan b q hq);rcases hk2 with e2 | e2
  ·obtain ⟨s,r,hb⟩:=this.1;rw [<- e2,e,hc] at hb;cases hb
  ·obtain ⟨s,r,hb⟩:=this.2;rw [<- e2,e,hc] at hb;cases hb
structure lz (b:Int)(T0 Tm rest:List (Int×oz)):Prop where
 nr:(rest.map Prod.fst).Nodup
 old:∀p∈rest,am p.1 T0=some p.2
 nm:(Tm.map Prod.fst).Nodup
 at_:∀k,am k Tm=if k∈rest.map Prod.fst then am k T0 else (am k T0).map (l_ b)
theorem lz.start {b:Int}{T:List (Int×oz)}(hn:(T.map Prod.fst).Nodup):lz b T T T:=by
 refine ⟨hn,fun p hp=>nc hn hp,hn,fun k=>?_⟩
 split
 ·rfl
 ·rename_i h;rw [vj h];rfl
theorem lz.split {b:Int}{T0 Tm pre post:List (Int×oz)}{k:Int}{v:oz}(h:lz b T0 Tm (pre++(k,v) :: post)):(((pre++post).map Prod.fst).Nodup/\k∉(pre++post).map Prod.fst)/\am k T0=some v/\am k Tm=some v:=by
 have h1:=h.nr;rw [List.map_append,List.map_cons,List.nodup_append] at h1;obtain ⟨a1,a2,a3⟩:=h1;rw [List.nodup_cons] at a2;have h0:am k T0=some v:=h.old (k,v) (by simp);refine ⟨⟨?_,?_⟩,h0,?_⟩
 ·rw [List.map_append,List.nodup_append];exact ⟨a1,a2.2,fun x hx y hy=>a3 x hx y (List.mem_cons_of_mem _ hy)⟩
 ·rw [List.map_append,List.mem_append];rintro (e | e)
  ·exact a3 k e k (by simp) rfl
  ·exact a2.1 e
 ·rw [h.at_,if_pos (by simp)];exact h0
theorem as9 {pre post:List (Int×oz)}{k:Int}{v:oz}(x:Int)(hx:x≠k):x∈(pre++(k,v) :: post).map Prod.fst ↔ x∈(pre++post).map Prod.fst:=by
 simp [hx]
theorem lz.next {b:Int}{T0 Tm pre post:List (Int×oz)}{k:Int}{v:oz}(h:lz b T0 Tm (pre++(k,v) :: post))(hv:v.root≠b):lz b T0 Tm (pre++post):=by
 obtain ⟨⟨s1,s2⟩,s3,s4⟩:=h.split;refine ⟨s1,fun p hp=>h.old p ?_,h.nm,fun x=>?_⟩
 ·simp only [List.mem_append,List.mem_cons] at hp ⊢;exact hp.imp id .inr
 ·by_cases e:x=k
  ·subst e;rw [if_neg s2,s4,s3];simp [l_,hv]
  ·rw [h.at_];simp only [as9 x e]
theorem lz.put {b:Int}{T0 Tm pre post:List (Int×oz)}{k:Int}{v:oz}(h:lz b T0 Tm (pre++(k,v) :: post)):lz b T0 (putM k (l_ b v) Tm) (pre++post):=by
 obtain ⟨⟨s1,s2⟩,s3,s4⟩:=h.split;refine ⟨s1,fun p hp=>h.old p ?_,xv h.nm,fun x=>?_⟩
 ·simp only [List.mem_append,List.mem_cons] at hp ⊢;exact hp.imp id .inr
 ·rw [g_];by_cases e:x=k
  ·subst e;rw [if_pos rfl,if_neg s2,s3];rfl
  ·rw [if_neg (Ne.symm e),h.at_];simp only [as9 x e]
theorem a68:(Tryz.prog.info? 116).map (fun i=>(i.zero,i.size,i.bytes))=some (some (.agg #[.int .i64 0,.int .i64 0]),2,16):=by kernel_rfl
open Go.ChangeMaps (setBlock heap_setBlock_same) in
theorem Fr.mid {w w':World}{i r:Nat}(hf:Fr w w' (fun k=>k=i\/k=r)){o:Obj}(ho:w.heap[r]?=some o):∃m,Fr w m (fun k=>k=i)/\Fr m w' (fun k=>k=r):=by
 have hlt:r<w.heap.size:=(Array.getElem?_eq_some_iff.1 ho).1;have hlt':r<w'.heap.size:=Nat.lt_of_lt_of_le hlt hf.size;refine ⟨setBlock w' r o,⟨hf.os,hf.tape,hf.output,by simpa [setBlock] using hf.size,fun k hk hn=>?_⟩,⟨rfl,rfl,rfl,by simp [setBlock],fun k hk hn=>?_⟩⟩
 ·simp only [setBlock];by_cases e:k=r
  ·subst e;rw [Array.getElem?_setIfInBounds_self_of_lt hlt',ho]
  ·rw [Array.getElem?_setIfInBounds_ne (Ne.symm e)];exact hf.block k hk (by rintro (h1 | h1);exact hn h1;exact e h1)
 ·simp only [setBlock];rw [Array.getElem?_setIfInBounds_ne (fun e=>hn e.symm)]
theorem bu2 (kb:Nat)(S:KS)(V:ah)(b:Int)(w:World)(h:KD w kb S V)(hl:S.D.length<=900000):
 Calls Tryz.prog 114 #[.pointer (some ⟨kb,0,none⟩),.int .i64 b] w fun e w'=>e=.returned (.tuple #[])/\ic w kb V ⟨aj3 S.K b,S.D++[(b,bt S.K b)]⟩ w':=by
 obtain ⟨iD,hiD,hD0,hD1,hD2⟩:=info_parts a68;obtain ⟨AD,capD,hdv⟩:=cz h.d;have hd:=h.d;rw [hdv] at hd;have hcd:=h.ker.cd;rw [hdv] at hcd;have hcn:=h.ker.cn;have hnd:bt S.K b=(am b V.N).getD 0:=by rw [<- h.eq];rfl
 obtain ⟨L,hL⟩:∃L,L=bt S.K b:=⟨_,rfl⟩;have hlk:iy ke (.int .i64 0) (am b V.N)=.int .i64 L:=by
  rw [hL,hnd];cases am b V.N<;>rfl
 have hrun:=(h.ker.nodes.frame ((Fr.refl w (fun _=>False)).drew) id).look_run (P:=Tryz.prog) ku Tryz.underlying62 (z:=.int .i64 0) (by kernel_rfl) b false;have hz:w.frozen? ⟨kb,1027,none⟩=false:=by obtain ⟨c,hc,_⟩:=h.ker.blk;exact ab hc
 have hkb:kb<w.heap.size:=World.block_lt_of_cell? _ _ hcd;simp only [Bool.false_eq_true,if_false,ke,hlk] at hrun;have HL:Hid (L=bt S.K b):=hL;have HDV:Hid (V.dv=.slice AD S.D.length capD):=hdv;clear hL hnd hdv hlk;go_enter Tryz.func114,Tryz.ntmps114
 go_upto_region 0 with fail
 go_cut [20] (fun _ wx=>∃g8 cap8 W8,wx=W8.setCell ⟨kb,1027,none⟩ (.slice (some ⟨g8,0,none⟩) (S.D.length+1) cap8)/\W8.ownsRow 0 116 2 (.slice (some ⟨g8,0,none⟩) (S.D.length+1) cap8) (S.D.length+1) (ez S.D++[.int .i64 b,.int .i64 L])/\
  ((Value.slice AD S.D.length capD).ownBlock=some g8\/g8=w.heap.size+1)/\Fr w W8 (fun r=>(Value.slice AD S.D.length capD).ownBlock=some r))
 case first=>
  go_region_law
   ((refine step_append_lies _ rfl _ _ 67 rfl 0 116 iD _ 2 16 Tryz.underlying67 hiD hD0 hD1 hD2 rfl (by decide) (.slice AD S.D.length capD) _ _ rfl (World.ownsRow.alloc hd _) ⟨_,0,none⟩ 1 1 [.int .i64 b,.int .i64 L] rfl rfl (dg _ _ _) (by intro u hu;simp at hu;rcases hu with rfl | rfl<;>rfl) (by decide) (by unfold maxLen;omega) (by omega) (Nat.zero_le _) (w.heap.size+1) (by simp) ?_);intro g8 cap8 W8 hown8 hg8 hat8 hlt8
    have hf28:Fr w W8 (fun r=>(Value.slice AD S.D.length capD).ownBlock=some r):=(((Fr.refl w (fun r=>(Value.slice AD S.D.length capD).ownBlock=some r)).drew).alloc (.cells #[.int .i64 b,.int .i64 L] 116)).grown hg8 (fun r hr=>.inl hr)
    have h8:=h.ker.frame hf28 (fun k hk e=>h.ap k (by rw [HDV.out];exact e) hk)
    have hc8:W8.cell? ⟨kb,1027,none⟩=some (.slice AD S.D.length capD):=by rw [<- HDV.out];exact h8.cd
    have hz8:W8.frozen? ⟨kb,1027,none⟩=false:=by obtain ⟨c,hc,_⟩:=h8.blk;exact ab hc)
  all_goals
   go_wp2;go_meet;case rel=>exact ⟨g8,cap8,W8,rfl,hown8,hat8,hf28⟩
 case rest=>
  obtain ⟨g8,cap8,W8,hwx,hown8,hat8,hf28⟩:=hcut;clear hrun hcd hcn hz;have h8:=h.ker.frame hf28 (fun k hk e=>h.ap k (by rw [HDV.out];exact e) hk)
  have hg8k:¬V.fp kb g8:=by
   rcases hat8 with e | e
   ·exact fun hk=>h.ap g8 (by rw [HDV.out];exact e) hk
   ·exact fun hk=>by have:=h.ker.fpLt hk;omega
  have h9:aq wc kb {V with dv:=.slice (some ⟨g8,0,none⟩) (S.D.length+1) cap8}:=by rw [hwx];exact h8.putD _
  have hf89:Fr W8 wc (fun k=>k=kb):=by rw [hwx];exact Fr.set1 _ _ _ _
  have hown9:wc.ownsRow 0 116 2 (.slice (some ⟨g8,0,none⟩) (S.D.length+1) cap8) (S.D.length+1) (ez S.D++[.int .i64 b,.int .i64 L]):=by
   refine hf89.owns hown8 (fun k hk e=>?_);have hk2:g8=k:=by simpa [Value.ownBlock] using hk
   exact hg8k (by rw [hk2,e];exact .inl rfl)
  have hg8c:g8<wc.heap.size:=(hown9.lt g8 rfl).2;have hF9:Fr w wc (V.fd kb):=(hf28.mono (fun k hk=>.inr (by rw [HDV.out];exact hk))).step hf89 (fun k hk=>.inl (.inl (.inl hk)))
  clear hwx h8 hf28 hf89 hown8;obtain ⟨WA,hrA,hmA,hfA,hsA⟩:=h9.nodes.del_run (P:=Tryz.prog) (ty:=0) ku Tryz.underlying62 b;simp only [ke] at hrA;have hA:=h9.putN hmA hfA;have hcn:=h9.cn;have hct:=hA.cr;obtain ⟨WB,hrB,hitB,hfB,hsB⟩:=hA.thr.range_run (P:=Tryz.prog) Tryz.underlying63;go_wp2;have hBk:aq WB kb _:=hA.frame hfB (fun _ _=>id);have hzA:wc.heap.size<=WA.heap.size:=by omega
  have hFB:Fr w WB (V.fd kb):=(hF9.step hfA (fun k hk=>.inl (.inl (.inr (.inr (.inl hk)))))).step hfB (fun _=>False.elim)
  have hownB:WB.ownsRow 0 116 2 (.slice (some ⟨g8,0,none⟩) (S.D.length+1) cap8) (S.D.length+1) (ez S.D++[.int .i64 b,.int .i64 L]):=by
   refine hfB.owns (hfA.owns hown9 (fun k hk e=>?_)) (fun _ _=>id);have hk2:g8=k:=by simpa [Value.ownBlock] using hk
   exact hg8k (by rw [hk2,e];exact .inr (.inr (.inl rfl)))
  have hnT:=hA.thr.nodup;have hrlt:V.rb<WA.heap.size:=hA.thr.lt;have hwA:w.heap.size<=WA.heap.size:=Nat.le_trans hF9.size hzA;rw [hsA] at hitB hsB hrlt hwA;have hkI:kb≠wc.heap.size:=by omega
  have hIk:∀k,V.fp kb k->k≠wc.heap.size:=fun k hk e=>by have:=h.ker.fpLt hk;omega
  clear hrA hmA hfA hrB hct hcn h9 hown9 hF9 hA hfB hsA hzA;go_loopg [4] (V.T.length) (fun k _ w'=>∃Tm rest,Aside (rest.length=k/\my w' wc.heap.size V.rb ke oz.val Tm rest/\lz b V.T Tm rest/\Fr WB w' (fun k=>k=wc.heap.size\/k=V.rb)))
  case atStart=>exact ⟨V.T,V.T,⟨rfl,hitB,lz.start hnT,Fr.refl _ _⟩⟩
  case round=>
   obtain ⟨Tm,rest,hAs⟩:=hrel;obtain ⟨hk,hit,hro,hfr⟩:=hAs.out;clear hAs hitB;have hcr:wr.cell? ⟨kb,1028,none⟩=some (.map (some V.rb)):=hfr.cell hBk.cr (by
    rintro (e | e)
    ·exact hkI e
    ·exact hBk.kr e)
   rcases hit.next_run (P:=Tryz.prog) (by omega) 0 with ⟨h0,hr⟩ | ⟨pre,post,k,v,w1,hrest,hr,he,hit1,hF1,hs1⟩
   ·subst h0;have hm:=hit.map hro.nm;obtain ⟨o,ho⟩:∃o,WB.heap[V.rb]?=some o:=by obtain ⟨es,cl,hb,_⟩:=hBk.thr.blk;exact ⟨_,hb⟩
    obtain ⟨m,hm1,hm2⟩:=hfr.mid ho;have hK:aq wr kb _:=(hBk.frame hm1 (fun k hk e=>hIk k hk e)).putT hm hm2;have hout:ic w kb V ⟨aj3 S.K b,S.D++[(b,L)]⟩ wr:=by
     refine ⟨_,⟨hK,?_,?_,?_⟩,hFB.step hfr ?_,?_⟩
     ·rw [<- h.eq];simp only [ah.ker,aj3];congr 1
      ·funext x;rw [j9 b x V.N h.ker.nodes.nodup];simp only [upd];by_cases e:x=b
       ·subst e;simp
       ·rw [if_neg (Ne.symm e),if_neg e]
      ·funext x;rw [hro.at_];simp
     ·have:=hfr.owns hownB (fun k hk e=>by
       have hk2:g8=k:=by simpa [Value.ownBlock] using hk
       rcases e with e | e
       ·omega
       ·exact hg8k (by rw [hk2,e];exact .inr (.inr (.inr (.inl rfl)))))
      simpa [ez] using this
     ·intro k hk;have hk2:g8=k:=by simpa [Value.ownBlock] using hk
      rw [<- hk2];exact hg8k
     ·rintro k (e | e)
      ·exact .inr (by omega)
      ·exact .inl (.inl (.inr (.inr (.inr (.inl e)))))
     ·rintro k (hk | hk)
      ·exact .inl (.inl hk)
      ·have hk2:g8=k:=by simpa [Value.ownBlock] using hk
       rw [<- hk2];rcases hat8 with e | e
       ·exact .inl (.inr (by rw [HDV.out];exact e))
       ·exact .inr (by omega)
    rw [HL.out] at hout;clear hk hm hm1 hm2 hK hit;go_wp2;go_end0;exact ⟨rfl,hout⟩
   ·obtain ⟨⟨s1,s2⟩,s3,s4⟩:=lz.split (hrest▸hro);have hin:k∈Tm.map Prod.fst:=List.mem_map.2 ⟨(k,v),pl s4,rfl⟩;have hme:(pre++post).length<gk:=by rw [<- hk,hrest];simp
    have hfr1:Fr WB w1 (fun k=>k=wc.heap.size\/k=V.rb):=hfr.step hF1 (fun _ h=>.inl (.inl h))
    have hcr1:=hF1.cell hcr hkI;have hro1:=hro;rw [hrest] at hro1;have hz1:wc.heap.size<w1.heap.size:=by have:=hfr1.size;omega
    clear hk hcr hit hro hfr hF1 hs1;simp only [ke] at hr he;obtain ⟨vs,vr,vv,vb,ve⟩:=v;simp only [oz.val] at hr he;go_upto_region 5 with fail
    generalize hW2:World.alloc _ _=W2;have hf2:Fr w1 W2 (fun _=>False):=by rw [<- hW2];exact (Fr.refl _ _).alloc _
    have hb2:W2.heap[w1.heap.size]?=some (.cells #[.int .i64 vs,.int .i64 vr,.int .i64 vv,.int .i64 vb,.int .i64 ve] 82 (0,0)):=by rw [<- hW2];exact heap_alloc_new _ _
    clear hW2 hr he;obtain ⟨t0,t1,t2,t3,t4⟩:=a80 hb2;have tz:W2.frozen? ⟨w1.heap.size,1,none⟩=false:=ab hb2;have hit2:=hit1.frame hf2 id id;have hfr2:Fr WB W2 (fun k=>k=wc.heap.size\/k=V.rb):=hfr1.step hf2 (fun _=>False.elim);have hcr2:=hf2.cell hcr1 id;by_cases e1:vr=b
    ·have d1:(vr==b)=true:=by simp [e1]
     have HE:Hid (vr=b):=e1;have hk1:kb≠w1.heap.size:=by omega
     have hf3:Fr W2 (W2.setCell ⟨w1.heap.size,1,none⟩ (.int .i64 (-1))) (fun k=>k=w1.heap.size):=Fr.set1 _ _ _ _;have hit3:=hit2.frame hf3 (by omega) (by omega);obtain ⟨W4,hr4,hit4,hf4,hs4⟩:=(hit3.frame ((Fr.refl (W2.setCell ⟨w1.heap.size,1,none⟩ (.int .i64 (-1))) (fun _=>False)).drew) id id).put_run (P:=Tryz.prog) (by omega) hro1.nm ku Tryz.underlying63 k (l_ b ⟨vs,vr,vv,vb,ve⟩) hin s2;have hval:oz.val (l_ b ⟨vs,vr,vv,vb,ve⟩)=.agg #[.int .i64 vs,.int .i64 (-1),.int .i64 vv,.int .i64 vb,.int .i64 ve]:=by simp [l_,e1,oz.val]
     rw [hval] at hr4;simp only [ke] at hr4;have hro4:=hro1.put;have hb3:(W2.setCell ⟨w1.heap.size,1,none⟩ (.int .i64 (-1))).heap[w1.heap.size]?=some (.cells #[.int .i64 vs,.int .i64 (-1),.int .i64 vv,.int .i64 vb,.int .i64 ve] 82 (0,0)):=ak W2 w1.heap.size 1 _ hb2;have hcr3:=hf3.cell hcr2 hk1;have hfr4:Fr WB W4 (fun k=>k=wc.heap.size\/k=V.rb):=(((hfr2.step hf3 (fun k hk=>.inr (by omega)))).drew).step hf4 (fun k hk=>.inl (.inr hk))
     clear e1 hro1;go_upto_region 7 with fail
     generalize W2.setCell ⟨w1.heap.size,1,none⟩ (.int .i64 (-1))=W3 at *
     clear t0 t1 t2 t3 t4 tz hcr2 hb2 hf3 hf4 hit3 hit2 hfr2 hs4;obtain ⟨t0,t1,t2,t3,t4⟩:=a80 hb3;go_region_law (fail)
     all_goals
      go_wp2;go_roundg ((pre++post).length)
      case measure=>exact hme
      case rel=>exact ⟨_,pre++post,⟨rfl,hit4,hro4,hfr4⟩⟩
    ·have d1:(vr==b)=false:=by simp [e1]
     have hro2:=hro1.next e1;clear hro1 e1;go_wp2;go_roundg ((pre++post).length)
     case measure=>exact hme
     case rel=>exact ⟨Tm,pre++post,⟨rfl,hit2,hro2,hfr2⟩⟩
theorem KD.setThr {w w1:World}{kb:Nat}{S:KS}{V:ah}{b:Int}{t:oz}(h:KD w kb S V)(hm:ei w1 V.rb ke oz.val (putM b t V.T))(hf:Fr w w1 (fun k=>k=V.rb)):KD w1 kb ⟨Proofs.YtdpjgflemddekaaGreatDoor.setThr S.K b t,S.D⟩ {V with T:=putM b t V.T}:=by
 refine ⟨h.ker.putT hm hf,?_,hf.owns h.d (fun k hk e=>h.ap k hk (by rw [e];exact .inr (.inr (.inr (.inl rfl))))),h.ap⟩
 rw [<- h.eq];simp only [ah.ker,Proofs.YtdpjgflemddekaaGreatDoor.setThr,ju]
theorem vu {w:World}{kb:Nat}{S:KS}{V:ah}(h:KD w kb S V)(b:Int):(Instr.lookup 63 (.map (some V.rb)) (.int .i64 b) false).run Tryz.prog w=.ok (gy S.K b).val w:=by
 have:=h.ker.thr.look_run (P:=Tryz.prog) ku Tryz.underlying63 (z:=.agg #[.int .i64 0,.int .i64 0,.int .i64 0,.int .i64 0,.int .i64 0]) (by kernel_rfl) b false;simp only [ke,Bool.false_eq_true,if_false] at this;rw [this];have e:S.K.thr b=am b V.T:=by rw [<- h.eq];rfl
 unfold gy;rw [e];cases am b V.T<;>rfl
theorem zx (kb:Nat)(S:KS)(V:ah)(b x g e:Int)(w:World)(h:KD w kb S V):
 Calls Tryz.prog 75 #[.pointer (some ⟨kb,0,none⟩),.int .i64 b,.int .i64 x,.int .i64 g,.int .i64 e] w fun r w'=>r=.returned (.tuple #[])/\ic w kb V ⟨setThr S.K b ⟨1,(gy S.K b).root,x,g,e⟩,S.D⟩ w':=by
 have hr0:=vu h b;have c0:=h.ker.cr;have hkb:kb<w.heap.size:=World.block_lt_of_cell? _ _ c0;generalize hT:gy S.K b=th at hr0 ⊢;simp only [oz.val] at hr0;obtain ⟨W1,hW1⟩:∃W1,w.alloc (.cells #[.int .i64 1,.int .i64 th.root,.int .i64 x,.int .i64 g,.int .i64 e] 82)=W1:=⟨_,rfl⟩;have hf1:Fr w W1 (fun _=>False):=by rw [<- hW1];exact (Fr.refl _ _).alloc _
 have hb1:W1.heap[w.heap.size]?=some (.cells #[.int .i64 1,.int .i64 th.root,.int .i64 x,.int .i64 g,.int .i64 e] 82 (0,0)):=by rw [<- hW1];exact heap_alloc_new _ _
 have h1:=h.frame hf1 (fun _ _=>id);have hd1:=h1.frame ((Fr.refl W1 (fun _=>False)).drew) (fun _ _=>id);obtain ⟨W2,hr2,hm2,hf2,hs2⟩:=hd1.ker.thr.put_run (P:=Tryz.prog) ku Tryz.underlying63 b ⟨1,th.root,x,g,e⟩;simp only [ke,oz.val] at hr2;have hk2:=hd1.setThr hm2 hf2;have c1:=h1.ker.cr;obtain ⟨q0,q1,q2,q3,q4⟩:=a80 hb1;have hout:ic w kb V ⟨setThr S.K b ⟨1,th.root,x,g,e⟩,S.D⟩ W2:=⟨_,hk2,(hf1.mono (fun _=>False.elim)).step (((Fr.refl W1 (fun k=>k=V.rb)).drew).step hf2 (fun _ e=>.inl e)) (fun k e=>.inl (.inl (by rw [e];exact .inr (.inr (.inr (.inl rfl)))))),fun k hk=>.inl hk⟩
 clear hT hk2 hm2 hf2 hd1 h1 hf1 hb1 hs2;go_enter Tryz.func75,Tryz.ntmps75
 go_upto_region 3 with fail
 clear hW1 hr0 c0;go_region_law (fail)
 all_goals
  go_wp2;go_end0;exact ⟨rfl,hout⟩
theorem vl (kb:Nat)(S:KS)(V:ah)(b s:Int)(w:World)(h:KD w kb S V):
 Calls Tryz.prog 76 #[.pointer (some ⟨kb,0,none⟩),.int .i64 b,.int .i64 s] w fun r w'=>r=.returned (.tuple #[])/\ic w kb V ⟨setThr S.K b {gy S.K b with state:=s},S.D⟩ w':=by
 have hr0:=vu h b;have c0:=h.ker.cr;have hkb:kb<w.heap.size:=World.block_lt_of_cell? _ _ c0;generalize hT:gy S.K b=th at hr0 ⊢;simp only [oz.val] at hr0;obtain ⟨W1,hW1⟩:∃W1,w.alloc (.cells #[.int .i64 s,.int .i64 th.root,.int .i64 th.value,.int .i64 th.badge,.int .i64 th.err] 82)=W1:=⟨_,rfl⟩;have hf1:Fr w W1 (fun _=>False):=by rw [<- hW1];exact (Fr.refl _ _).alloc _
 have hb1:W1.heap[w.heap.size]?=some (.cells #[.int .i64 s,.int .i64 th.root,.int .i64 th.value,.int .i64 th.badge,.int .i64 th.err] 82 (0,0)):=by rw [<- hW1];exact heap_alloc_new _ _
 have h1:=h.frame hf1 (fun _ _=>id);have hd1:=h1.frame ((Fr.refl W1 (fun _=>False)).drew) (fun _ _=>id);obtain ⟨W2,hr2,hm2,hf2,hs2⟩:=hd1.ker.thr.put_run (P:=Tryz.prog) ku Tryz.underlying63 b {th with state:=s};simp only [ke,oz.val] at hr2;have hk2:=hd1.setThr hm2 hf2;have c1:=h1.ker.cr;obtain ⟨q0,q1,q2,q3,q4⟩:=a80 hb1;have hout:ic w kb V ⟨setThr S.K b {th with state:=s},S.D⟩ W2:=⟨_,hk2,(hf1.mono (fun _=>False.elim)).step (((Fr.refl W1 (fun k=>k=V.rb)).drew).step hf2 (fun _ e=>.inl e)) (fun k e=>.inl (.inl (by rw [e];exact .inr (.inr (.inr (.inl rfl)))))),fun k hk=>.inl hk⟩
 clear hT hk2 hm2 hf2 hd1 h1 hf1 hb1 hs2;go_enter Tryz.func76,Tryz.ntmps76
 go_upto_region 2 with fail
 clear hW1 hr0 c0;go_region_law (fail)
 all_goals
  go_wp2;go_end0;exact ⟨rfl,hout⟩
end Go.Proofs.YtdpjgflemddekaaGreatDoor

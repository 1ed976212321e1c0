/- Maps of the code, as lists of keys and elements: what a look-up, a store and a delete do. Nothing of the program's text. -/
import Derived.Test.YtdpjgflemddekaaGreatDoorMBase
import Derived.Maps.OwnSet
namespace Go.Proofs.YtdpjgflemddekaaGreatDoor
open Go.RowKit
open Go.ChangeMaps (setBlock heap_setBlock_same)
structure ad1 (P:Program)(kt:TypeId){κ:Type}(val:κ->Value):Prop where
 inj:∀a b,val a=val b->a=b
 check:∀e k w,(Instr.checkKey e 10000 kt (val k)).run P w=.ok () w
 find:∀w k (es:List MapEntry),(∀x∈es,∃a,x.key=val a)->
  ((Instr.findKey kt (val k) es).run P w=.ok none w/\∀x∈es,x.key≠val k)\/
  ∃j e0,(Instr.findKey kt (val k) es).run P w=.ok (some (j,e0.val)) w/\es[j]?=some e0/\e0.key=val k
 stays:∀w k,(Instr.keyThatStays (val k) (val k)).run P w=.ok (val k) w
section
variable {κ α:Type} [DecidableEq κ]
def am (k:κ):List (κ×α)->Option α
 | []=>none
 | p :: m=>if p.1=k then some p.2 else am k m
def putM (k:κ)(v:α):List (κ×α)->List (κ×α)
 | []=>[(k,v)]
 | p :: m=>if p.1=k then (k,v) :: m else p :: putM k v m
def j3 (k:κ):List (κ×α)->List (κ×α)
 | []=>[]
 | p :: m=>if p.1=k then m else p :: j3 k m
theorem g_ (k k':κ)(v:α):∀m:List (κ×α),am k' (putM k v m)=if k=k' then some v else am k' m
 | []=>by simp [putM,am]
 | p :: m=>by
  simp only [putM];by_cases h:p.1=k
  ·simp only [h,if_true,am];by_cases h2:k=k'<;>simp [h2]
  ·simp only [h,if_false,am,g_ k k' v m];by_cases h2:k=k'
   ·subst h2;simp [h]
   ·simp [h2]
theorem vj {k:κ}:∀{m:List (κ×α)},k∉m.map Prod.fst->am k m=none
 | [],_=>rfl
 | p :: m,h=>by
  simp only [List.map_cons,List.mem_cons,not_or] at h;simp only [am,if_neg (Ne.symm h.1),vj h.2]
theorem pl {k:κ}{v:α}:∀{m:List (κ×α)},am k m=some v->(k,v)∈m
 | [],h=>by cases h
 | p :: m,h=>by
  simp only [am] at h;split at h
  ·rename_i h1;cases h
   exact List.mem_cons.2 (.inl (by rw [<- h1]))
  ·exact List.mem_cons.2 (.inr (pl h))
theorem nc {k:κ}{v:α}:∀{m:List (κ×α)},(m.map Prod.fst).Nodup->(k,v)∈m->am k m=some v
 | [],_,h=>by cases h
 | p :: m,hn,h=>by
  simp only [List.map_cons,List.nodup_cons] at hn;simp only [am];rcases List.mem_cons.1 h with rfl | h
  ·simp
  ·have:p.1≠k:=fun e=>hn.1 (List.mem_map.2 ⟨_,h,e.symm⟩)
   rw [if_neg this];exact nc hn.2 h
theorem j9 (k k':κ):∀m:List (κ×α),(m.map Prod.fst).Nodup->am k' (j3 k m)=if k=k' then none else am k' m
 | [],_=>by simp [j3,am]
 | p :: m,hn=>by
  simp only [List.map_cons,List.nodup_cons] at hn;simp only [j3];by_cases h:p.1=k
  ·simp only [h,if_true,am];by_cases h2:k=k'
   ·subst h2;simp only [if_true];exact vj (h▸hn.1)
   ·simp [h2]
  ·simp only [h,if_false,am,j9 k k' m hn.2];by_cases h2:k=k'
   ·subst h2;simp [h]
   ·simp [h2]
theorem a63 (k:κ)(v:α):∀m:List (κ×α),(putM k v m).map Prod.fst=if k∈m.map Prod.fst then m.map Prod.fst else m.map Prod.fst++[k]
 | []=>by simp [putM]
 | p :: m=>by
  simp only [putM];by_cases h:p.1=k
  ·simp [h]
  ·simp only [h,if_false,List.map_cons,a63 k v m,List.mem_cons,Ne.symm h,false_or];split<;>simp
theorem xv {k:κ}{v:α}{m:List (κ×α)}(h:(m.map Prod.fst).Nodup):((putM k v m).map Prod.fst).Nodup:=by
 rw [a63];split
 ·exact h
 ·rename_i hn;rw [List.nodup_append];exact ⟨h,by simp,fun a ha b hb e=>by simp at hb;subst hb;subst e;exact hn ha⟩
theorem bh4 (k:κ):∀m:List (κ×α),(j3 k m).Sublist m
 | []=>by simp [j3]
 | p :: m=>by
  simp only [j3];split
  ·exact List.sublist_cons_self _ _
  ·exact (bh4 k m).cons_cons _
theorem aq4 {k:κ}{m:List (κ×α)}(h:(m.map Prod.fst).Nodup):((j3 k m).map Prod.fst).Nodup:=
 ((bh4 k m).map _).nodup h
end
section
variable {κ α:Type} [DecidableEq κ] {P:Program} {kt et t:TypeId} {val:κ->Value} {enc:α->Value}
def jq (val:κ->Value)(enc:α->Value)(m:List (κ×α)):List (Value×Value):=m.map fun p=>(val p.1,enc p.2)
def kv (es:List MapEntry):List (Value×Value):=es.map fun e=>(e.key,e.val)
structure ei (w:World)(b:Nat)(val:κ->Value)(enc:α->Value)(m:List (κ×α)):Prop where
 blk:∃es clock,w.heap[b]?=some (.map es clock)/\kv es.toList=jq val enc m/\MapKept.Stamped es clock
 nodup:(m.map Prod.fst).Nodup
omit [DecidableEq κ] in
theorem ei.lt {w:World}{b:Nat}{m:List (κ×α)}(h:ei w b val enc m):b<w.heap.size:=by
 obtain ⟨es,clock,hb,_⟩:=h.blk;exact (Array.getElem?_eq_some_iff.1 hb).1
omit [DecidableEq κ] in
theorem ei.frame {w w':World}{b:Nat}{m:List (κ×α)}{S:Nat->Prop}(h:ei w b val enc m)(hf:Fr w w' S)(hn:¬S b):ei w' b val enc m:=by
 obtain ⟨es,clock,hb,hk⟩:=h.blk;exact ⟨⟨es,clock,hf.same hb hn,hk⟩,h.nodup⟩
omit [DecidableEq κ] in
theorem ei.new (w:World)(val:κ->Value)(enc:α->Value):ei (w.alloc (.map #[] 0)) w.heap.size val enc []:=
 ⟨⟨#[],0,heap_alloc_new _ _,rfl,MapKept.stamped_empty 0⟩,by simp⟩
theorem ac4 (hi:∀a b,val a=val b->a=b){k:κ}:∀(es:List MapEntry) (m:List (κ×α)),kv es=jq val enc m->(∀x∈es,x.key≠val k)->
 am k m=none/\j3 k m=m/\∀v,putM k v m=m++[(k,v)]
 | [],[],_,_=>by simp [am,j3,putM]
 | [],p :: m,h,_=>by simp [kv,jq] at h
 | e :: es,[],h,_=>by simp [kv,jq] at h
 | e :: es,p :: m,h,hn=>by
  simp only [kv,jq,List.map_cons,List.cons.injEq,Prod.mk.injEq] at h;have h1:p.1≠k:=fun e1=>hn e (by simp) (by rw [h.1.1,e1])
  obtain ⟨r1,r2,r3⟩:=ac4 hi es m h.2 (fun x hx=>hn x (by simp [hx]))
  simp only [am,j3,putM,if_neg h1,r1,r2,r3,List.cons_append,true_and,implies_true]
theorem am0 (hi:∀a b,val a=val b->a=b){k:κ}:∀(es:List MapEntry) (m:List (κ×α)) (j:Nat) (e0:MapEntry),kv es=jq val enc m->(m.map Prod.fst).Nodup->
 es[j]?=some e0->e0.key=val k->
 ∃v,e0.val=enc v/\am k m=some v/\kv (es.eraseIdx j)=jq val enc (j3 k m)/\
  ∀v' (f:MapEntry->MapEntry),(∀e,(f e).key=val k/\(f e).val=enc v')->kv (es.modify j f)=jq val enc (putM k v' m)
 | [],_,j,e0,_,_,h,_=>by simp at h
 | e :: es,[],j,e0,h,_,_,_=>by simp [kv,jq] at h
 | e :: es,p :: m,0,e0,h,hn,he,hk=>by
  simp only [kv,jq,List.map_cons,List.cons.injEq,Prod.mk.injEq] at h;simp only [List.getElem?_cons_zero,Option.some.injEq] at he;subst he;have h1:p.1=k:=hi _ _ (h.1.1.symm.trans hk);refine ⟨p.2,h.1.2,by simp [am,h1],?_,fun v' f hf=>?_⟩
  ·simp only [List.eraseIdx_zero,List.tail_cons,j3,h1,if_true];exact h.2
  ·simp only [List.modify_zero_cons,putM,h1,if_true];simp only [kv,jq,List.map_cons,(hf e).1,(hf e).2];rw [h.2]
 | e :: es,p :: m,j+1,e0,h,hn,he,hk=>by
  simp only [kv,jq,List.map_cons,List.cons.injEq,Prod.mk.injEq] at h;simp only [List.map_cons,List.nodup_cons] at hn;simp only [List.getElem?_cons_succ] at he;obtain ⟨v,r1,r2,r3,r4⟩:=am0 hi es m j e0 h.2 hn.2 he hk;have h1:p.1≠k:=fun e1=>hn.1 (List.mem_map.2 ⟨_,pl r2,e1.symm⟩)
  refine ⟨v,r1,by simp only [am,if_neg h1,r2],?_,fun v' f hf=>?_⟩
  ·simp only [List.eraseIdx_cons_succ,j3,if_neg h1];simp only [kv,jq,List.map_cons,h.1.1,h.1.2];exact congrArg _ r3
  ·simp only [List.modify_succ_cons,putM,if_neg h1];simp only [kv,jq,List.map_cons,h.1.1,h.1.2];exact congrArg _ (r4 v' f hf)
omit [DecidableEq κ] in
theorem vk {es:List MapEntry}{m:List (κ×α)}(h:kv es=jq val enc m):∀x∈es,∃a,x.key=val a:=by
 intro x hx;have:(x.key,x.val)∈jq val enc m:=by rw [<- h];exact List.mem_map.2 ⟨x,hx,rfl⟩
 obtain ⟨p,_,hp⟩:=List.mem_map.1 this;exact ⟨p.1,(congrArg Prod.fst hp).symm⟩
def iy (enc:α->Value)(z:Value):Option α->Value
 | some v=>enc v
 | none=>z
theorem ei.look_run {w:World}{b:Nat}{m:List (κ×α)}(h:ei w b val enc m)(K:ad1 P kt val)(ht:P.underlying t=some (.map kt et)){z:Value}
 (hz:(zeroValue et).run P w=.ok z w) (k:κ) (c:Bool) :
 (Instr.lookup t (.map (some b)) (val k) c).run P w=.ok (if c then .tuple #[iy enc z (am k m),.bool (am k m).isSome] else iy enc z (am k m)) w:=by
 obtain ⟨es,clock,hb,hkv,hsd⟩:=h.blk;rcases K.find w k es.toList (vk hkv) with ⟨h1,h2⟩ | ⟨j,e0,h1,h2,h3⟩
 ·have:=(ac4 K.inj (k:=k) es.toList m hkv h2).1;rw [this];simp [Instr.lookup,run_underlying ht,MapKept.run_getObj_map hb,K.check,h1,hz,Result.andThen,iy]
 ·obtain ⟨v,r1,r2,_⟩:=am0 K.inj es.toList m j e0 hkv h.nodup h2 h3;rw [r2];simp [Instr.lookup,run_underlying ht,MapKept.run_getObj_map hb,K.check,h1,Result.andThen,iy,r1]
theorem nj (w:World)(b:Nat)(o:Obj):Fr w (setBlock w b o) (fun k=>k=b):=
 ⟨rfl,rfl,rfl,by simp [setBlock],fun k hk hn=>by
  simp only [setBlock];rw [Array.getElem?_setIfInBounds_ne (fun e=>hn e.symm)]⟩
theorem ei.put_run {w:World}{b:Nat}{m:List (κ×α)}(h:ei w b val enc m)(K:ad1 P kt val)(ht:P.underlying t=some (.map kt et))(k:κ)(v:α):
 ∃w',(Instr.mapUpdate t (.map (some b)) (val k) (enc v)).run P w=.ok () w'/\ei w' b val enc (putM k v m)/\Fr w w' (fun x=>x=b)/\w'.heap.size=w.heap.size:=by
 obtain ⟨es,clock,hb,hkv,hsd⟩:=h.blk;rcases K.find w k es.toList (vk hkv) with ⟨h1,h2⟩ | ⟨j,e0,h1,h2,h3⟩
 ·obtain ⟨r1,r2,r3⟩:=ac4 K.inj (k:=k) es.toList m hkv h2;refine ⟨setBlock w b (.map (es.push ⟨val k,enc v,clock⟩) (clock+1)),?_,⟨⟨_,_,heap_setBlock_same hb _,?_,MapKept.stamped_push hsd h2⟩,xv h.nodup⟩,nj _ _ _,by simp [setBlock]⟩
  ·simp [Instr.mapUpdate,run_underlying ht,MapKept.run_getObj_map hb,K.check,h1,MapKept.run_setObj_map _ hb,Result.andThen,setBlock]
  ·rw [r3,Array.toList_push];simp only [kv,jq,List.map_append,List.map_cons,List.map_nil] at hkv ⊢;rw [hkv]
 ·obtain ⟨v0,r1,r2,r3,r4⟩:=am0 K.inj es.toList m j e0 hkv h.nodup h2 h3;have hj:es[j]?=some e0:=by simpa using h2
  refine ⟨setBlock w b (.map (es.modify j fun e'=>{e' with key:=val k,val:=enc v}) clock),?_,⟨⟨_,_,heap_setBlock_same hb _,?_,MapKept.stamped_modify hsd j _ (fun _ _=>rfl) (fun e _ he=>by rw [hj] at he;cases he;exact h3.symm)⟩,xv h.nodup⟩,nj _ _ _,by simp [setBlock]⟩
  ·simp [Instr.mapUpdate,run_underlying ht,MapKept.run_getObj_map hb,K.check,h1,hj,h3,K.stays,MapKept.run_setObj_map _ hb,Result.andThen,setBlock]
  ·rw [Array.toList_modify];exact r4 v _ (fun _=>⟨rfl,rfl⟩)
theorem ei.del_run {w:World}{b:Nat}{ty:TypeId}{m:List (κ×α)}(h:ei w b val enc m)(K:ad1 P kt val)(ht:P.underlying t=some (.map kt et))(k:κ):
 ∃w',(Builtin.delete_ #[t,kt] ty #[.map (some b),val k]).run P w=.ok (.tuple #[]) w'/\ei w' b val enc (j3 k m)/\Fr w w' (fun x=>x=b)/\w'.heap.size=w.heap.size:=by
 obtain ⟨es,clock,hb,hkv,hsd⟩:=h.blk;rcases K.find w k es.toList (vk hkv) with ⟨h1,h2⟩ | ⟨j,e0,h1,h2,h3⟩
 ·obtain ⟨r1,r2,r3⟩:=ac4 K.inj (k:=k) es.toList m hkv h2;refine ⟨setBlock w b (.map es clock),?_,⟨⟨_,_,heap_setBlock_same hb _,?_,hsd⟩,aq4 h.nodup⟩,nj _ _ _,by simp [setBlock]⟩
  ·simp [Builtin.delete_,run_underlying ht,MapKept.run_getObj_map hb,K.check,h1,MapKept.run_setObj_map _ hb,Result.andThen,setBlock]
  ·rw [r2];exact hkv
 ·obtain ⟨v0,r1,r2,r3,r4⟩:=am0 K.inj es.toList m j e0 hkv h.nodup h2 h3;have hjl:j<es.size:=by simpa using (List.getElem?_eq_some_iff.1 h2).1
  refine ⟨setBlock w b (.map (es.eraseIdxIfInBounds j) clock),?_,⟨⟨_,_,heap_setBlock_same hb _,?_,MapKept.stamped_erase hsd j⟩,aq4 h.nodup⟩,nj _ _ _,by simp [setBlock]⟩
  ·simp [Builtin.delete_,run_underlying ht,MapKept.run_getObj_map hb,K.check,h1,MapKept.run_setObj_map _ hb,Result.andThen,setBlock]
  ·have hsub:(es.eraseIdxIfInBounds j).toList=es.toList.eraseIdx j:=by
    unfold Array.eraseIdxIfInBounds;rw [dif_pos hjl];simp
   rw [hsub];exact r3
end
section
variable {P:Program} {κ α:Type} [DecidableEq κ] {val:κ->Value} {enc:α->Value}
theorem ij (w:World){ops:Array Oper}{rest:List Oper}{o:Oper}{a:Act}{Q:Exit->Act->World->Prop}
 (hg:o.guard=none) (x1 x2:Operand) (t:TypeId) (c:Bool) (hop:o.op=Op.lookup t x1 x2 c) {kt et:TypeId} (K:ad1 P kt val) (ht:P.underlying t=some (.map kt et))
 {z:Value} (hz:(zeroValue et).run P w=.ok z w) {b:Nat} {m:List (κ×α)} (hm:a.eval x1=.map (some b)) (h:ei w b val enc m) (k:κ) (hx:a.eval x2=val k)
 (hK:wpList P ops Q rest (a.put o.dst (if c then .tuple #[iy enc z (am k m),.bool (am k m).isSome] else iy enc z (am k m))) w) :
 wpList P ops Q (o :: rest) a w:=by
 refine wpList_plain hg fun K' hK'=>?_
 unfold Oper.wp;have:=h.look_run K ht hz k c;simp [execOp,hop,hm,hx,this,Result.andThen];exact hK' _ _ hK
theorem ls (w:World){ops:Array Oper}{rest:List Oper}{o:Oper}{a:Act}{Q:Exit->Act->World->Prop}
 (hg:o.guard=none) (x1 x2 x3:Operand) (t:TypeId) (hop:o.op=Op.mapUpdate t x1 x2 x3) {kt et:TypeId} (K:ad1 P kt val) (ht:P.underlying t=some (.map kt et))
 {b:Nat} {m:List (κ×α)} (hm:a.eval x1=.map (some b)) (h:ei w b val enc m) (k:κ) (hx:a.eval x2=val k) (v:α) (hv:a.eval x3=enc v)
 (hK:∀w',ei w' b val enc (putM k v m)->Fr w w' (fun x=>x=b)->w'.heap.size=w.heap.size->wpList P ops Q rest (a.put o.dst undef) w') :
 wpList P ops Q (o :: rest) a w:=by
 refine wpList_plain hg fun K' hK'=>?_
 obtain ⟨w',hrun,r1,r2,r3⟩:=h.put_run K ht k v;unfold Oper.wp;simp [execOp,hop,hm,hx,hv,hrun,Result.andThen];exact hK' _ _ (hK w' r1 r2 r3)
end
structure Slot where
 node:Int
 index:Int
deriving DecidableEq
def Slot.val (s:Slot):Value:=.agg #[.int .i64 s.node,.int .i64 s.index]
def ke (n:Int):Value:=.int .i64 n
theorem Slot.val_inj (a b:Slot)(h:a.val=b.val):a=b:=by
 cases a;cases b;simp [Slot.val] at h;simp [h]
theorem wj {P:Program}{κ:Type}[DecidableEq κ]{kt:TypeId}{val:κ->Value}
 (same:∀a b w,(Op.equal kt (val a) (val b)).run P w=.ok (decide (a=b)) w) (inj:∀a b,val a=val b->a=b) (w:World) (k:κ) :
 ∀(es:List MapEntry) (i:Nat),(∀x∈es,∃a,x.key=val a)->
 ((Instr.findAsking kt (val k) es i).run P w=.ok none w/\∀x∈es,x.key≠val k)\/
 ∃j e0,(Instr.findAsking kt (val k) es i).run P w=.ok (some (i+j,e0.val)) w/\es[j]?=some e0/\e0.key=val k
 | [],i,_=>.inl ⟨by simp [Instr.findAsking],by simp⟩
 | e :: es,i,h=>by
  obtain ⟨a,ha⟩:=h e (by simp);by_cases hk:k=a
  ·exact .inr ⟨0,e,by simp [Instr.findAsking,ha,same,hk,Result.andThen],by simp,by rw [ha,hk]⟩
  ·rcases wj same inj w k es (i+1) (fun x hx=>h x (by simp [hx])) with ⟨r1,r2⟩ | ⟨j,e0,r1,r2,r3⟩
   ·refine .inl ⟨by simp [Instr.findAsking,ha,same,hk,Result.andThen,r1],?_⟩;intro x hx;rcases List.mem_cons.1 hx with rfl | hx
    ·rw [ha];exact fun e1=>hk (inj _ _ e1).symm
    ·exact r2 x hx
   ·refine .inr ⟨j+1,e0,?_,by simpa using r2,r3⟩;simp [Instr.findAsking,ha,same,hk,Result.andThen,r1];omega
end Go.Proofs.YtdpjgflemddekaaGreatDoor
namespace Go.Proofs.YtdpjgflemddekaaGreatDoor
inductive Fo where
 | nil:Fo
 | node:Slot->Fo->Fo->Fo
namespace Fo
def flat (d:Int):Fo->List (Slot×Int)
 | nil=>[]
 | node s kids next=>(s,d) :: (flat (d+1) kids++flat d next)
def roots:Fo->List Slot
 | nil=>[]
 | node s _ next=>s :: roots next
def slots:Fo->List Slot
 | nil=>[]
 | node s kids next=>s :: (slots kids++slots next)
theorem flat_slots:∀(F:Fo) (d:Int),(F.flat d).map Prod.fst=F.slots
 | nil,_=>rfl
 | node s kids next,d=>by simp [flat,slots,flat_slots kids,flat_slots next]
theorem flat_ge:∀(F:Fo) (d:Int),∀x∈F.flat d,d<=x.2
 | nil,_,x,h=>by simp [flat] at h
 | node s kids next,d,x,h=>by
  simp only [flat,List.mem_cons,List.mem_append] at h;rcases h with rfl | h | h
  ·exact Int.le_refl _
  ·have:=flat_ge kids (d+1) x h;omega
  ·exact flat_ge next d x h
theorem flat_head:∀(F:Fo) (d:Int),∀x∈(F.flat d).head?,x.2=d
 | nil,_,x,h=>by simp [flat] at h
 | node s kids next,d,x,h=>by simp [flat] at h;subst h;rfl
def snoc (t:Slot):Fo->Fo
 | nil=>node t nil nil
 | node s kids next=>node s kids (snoc t next)
theorem ad9 (t:Slot):∀(F:Fo) (d:Int),(F.snoc t).flat d=F.flat d++[(t,d)]
 | nil,d=>by simp [snoc,flat]
 | node s kids next,d=>by simp [snoc,flat,ad9 t next]
theorem roots_snoc (t:Slot):∀(F:Fo),(F.snoc t).roots=F.roots++[t]
 | nil=>rfl
 | node s kids next=>by simp [snoc,roots,roots_snoc t next]
def add (p t:Slot):Fo->Fo
 | nil=>nil
 | node s kids next=>if s=p then node s (kids.snoc t) next else node s (add p t kids) (add p t next)
theorem wk (p t:Slot):∀(F:Fo),p∉F.slots->F.add p t=F
 | nil,_=>rfl
 | node s kids next,h=>by
  simp only [slots,List.mem_cons,List.mem_append,not_or] at h;simp [add,Ne.symm h.1,wk p t kids h.2.1,wk p t next h.2.2]
theorem add_roots (p t:Slot):∀(F:Fo),(F.add p t).roots=F.roots
 | nil=>rfl
 | node s kids next=>by
  simp only [add];split
  ·rfl
  ·simp [roots,add_roots p t next]
theorem flat_add (p t:Slot):∀(F:Fo) (d:Int),F.slots.Nodup->p∈F.slots->∃A B C u,F.flat d=A++(p,u) :: (B++C)/\(∀x∈B,u<x.2)/\(∀x∈C.head?,x.2<=u)/\d<=u/\
 (F.add p t).flat d=A++(p,u) :: (B++(t,u+1) :: C)
 | nil,_,_,h=>by simp [slots] at h
 | node s kids next,d,hn,h=>by
  simp only [slots,List.nodup_cons,List.mem_append,not_or,List.nodup_append] at hn;simp only [slots,List.mem_cons,List.mem_append] at h;by_cases hs:s=p
  ·subst hs;refine ⟨[],kids.flat (d+1),next.flat d,d,by simp [flat],fun x hx=>by have:=flat_ge kids (d+1) x hx;omega,fun x hx=>by rw [flat_head next d x hx];omega,Int.le_refl _,?_⟩
   simp [add,flat,ad9]
  ·rcases h with h | h | h
   ·exact absurd h.symm hs
   ·have hnx:p∉next.slots:=fun h2=>hn.2.2.2 p h p h2 rfl
    obtain ⟨A,B,C,u,e1,hB,hC,hd,e2⟩:=flat_add p t kids (d+1) hn.2.1 h;refine ⟨(s,d) :: A,B,C++next.flat d,u,by simp [flat,e1],hB,?_,by omega,?_⟩
    ·intro x hx;cases C with
     | nil=>simp at hx;have:=flat_head next d x hx;omega
     | cons c C=>exact hC x (by simpa using hx)
    ·simp [add,hs,flat,e2,wk p t next hnx]
   ·have hnk:p∉kids.slots:=fun h2=>hn.2.2.2 p h2 p h rfl
    obtain ⟨A,B,C,u,e1,hB,hC,hd,e2⟩:=flat_add p t next d hn.2.2.1 h;refine ⟨(s,d) :: (kids.flat (d+1)++A),B,C,u,by simp [flat,e1],hB,hC,hd,?_⟩;simp [add,hs,flat,e2,wk p t kids hnk]
theorem slots_add (p t:Slot):∀(F:Fo),∀x,x∈(F.add p t).slots->x∈F.slots\/x=t
 | nil,x,h=>.inl h
 | node s kids next,x,h=>by
  simp only [add] at h;split at h
  ·simp only [slots,List.mem_cons,List.mem_append] at h ⊢;rcases h with h | h | h
   ·exact .inl (.inl h)
   ·have:x∈((kids.snoc t).flat 0).map Prod.fst:=by rw [flat_slots];exact h
    rw [ad9] at this;simp only [List.map_append,flat_slots,List.mem_append,List.map_cons,List.map_nil,List.mem_singleton] at this;rcases this with h2 | h2
    ·exact .inl (.inr (.inl h2))
    ·exact .inr h2
   ·exact .inl (.inr (.inr h))
  ·simp only [slots,List.mem_cons,List.mem_append] at h ⊢;rcases h with h | h | h
   ·exact .inl (.inl h)
   ·rcases slots_add p t kids x h with h2 | h2
    ·exact .inl (.inr (.inl h2))
    ·exact .inr h2
   ·rcases slots_add p t next x h with h2 | h2
    ·exact .inl (.inr (.inr h2))
    ·exact .inr h2
theorem nodup_add (p t:Slot)(F:Fo)(hn:F.slots.Nodup)(ht:t∉F.slots):(F.add p t).slots.Nodup:=by
 by_cases hp:p∈F.slots
 ·obtain ⟨A,B,C,u,e1,_,_,_,e2⟩:=flat_add p t F 0 hn hp;rw [<- flat_slots F 0,e1] at hn ht;rw [<- flat_slots _ 0,e2];have hperm:(A++(p,u) :: (B++(t,u+1) :: C)).Perm ((t,u+1) :: (A++(p,u) :: (B++C))):=by
   have h1:A++(p,u) :: (B++(t,u+1) :: C)=(A++(p,u) :: B)++(t,u+1) :: C:=by simp
   have h2:(t,u+1) :: (A++(p,u) :: (B++C))=(t,u+1) :: ((A++(p,u) :: B)++C):=by simp
   rw [h1,h2];exact List.perm_middle
  rw [(hperm.map Prod.fst).nodup_iff,List.map_cons,List.nodup_cons];exact ⟨ht,hn⟩
 ·rw [wk p t F hp];exact hn
def ren (a b:Slot):Fo->Fo
 | nil=>nil
 | node s kids next=>node (if s=a then b else s) (ren a b kids) (ren a b next)
theorem flat_ren (a b:Slot):∀(F:Fo) (d:Int),(F.ren a b).flat d=(F.flat d).map fun x=>(if x.1=a then b else x.1,x.2)
 | nil,_=>rfl
 | node s kids next,d=>by simp [ren,flat,flat_ren a b kids,flat_ren a b next]
theorem roots_ren (a b:Slot):∀(F:Fo),(F.ren a b).roots=F.roots.map fun x=>if x=a then b else x
 | nil=>rfl
 | node s kids next=>by simp [ren,roots,roots_ren a b next]
theorem slots_ren (a b:Slot):∀(F:Fo),(F.ren a b).slots=F.slots.map fun x=>if x=a then b else x
 | nil=>rfl
 | node s kids next=>by simp [ren,slots,slots_ren a b kids,slots_ren a b next]
theorem nodup_ren (a b:Slot)(F:Fo)(hn:F.slots.Nodup)(hb:b∉F.slots):(F.ren a b).slots.Nodup:=by
 rw [slots_ren];generalize F.slots=l at hn hb;induction l with
 | nil=>simp
 | cons x l ih=>
  simp only [List.nodup_cons,List.mem_cons,not_or] at hn hb;simp only [List.map_cons,List.nodup_cons];refine ⟨?_,ih hn.2 hb.2⟩;intro h;obtain ⟨y,hy,e⟩:=List.mem_map.1 h;by_cases h1:y=a<;>by_cases h2:x=a<;>simp only [h1,h2,if_true,if_false] at e
  ·subst h1;subst h2;exact hn.1 hy
  ·exact hb.1 e
  ·subst e;exact hb.2 hy
  ·subst e;exact hn.1 hy
theorem roots_sub:∀(F:Fo),∀x∈F.roots,x∈F.slots
 | nil,x,h=>by simp [roots] at h
 | node s kids next,x,h=>by
  simp only [roots,List.mem_cons] at h;simp only [slots,List.mem_cons,List.mem_append];rcases h with h | h
  ·exact .inl h
  ·exact .inr (.inr (roots_sub next x h))
end Fo
structure nw where
 parent:Slot
 kids:List Slot
def Fo.In (st:Slot->Option nw)(p:Slot):Fo->Prop
 | .nil=>True
 | .node s kids next=>(∃x,st s=some x/\x.parent=p/\x.kids=kids.roots)/\Fo.In st s kids/\Fo.In st p next
theorem Fo.In.congr {st st':Slot->Option nw}:∀{F:Fo} {p:Slot},F.In st p->(∀s∈F.slots,st' s=st s)->F.In st' p
 | .nil,_,_,_=>trivial
 | .node s kids next,p,⟨h1,h2,h3⟩,he=>by
  simp only [Fo.slots,List.mem_cons,List.mem_append] at he;exact ⟨by rw [he s (.inl rfl)];exact h1,h2.congr (fun x hx=>he x (.inr (.inl hx))),h3.congr (fun x hx=>he x (.inr (.inr hx)))⟩
theorem Fo.In.snoc {st:Slot->Option nw}{t:Slot}:∀{F:Fo} {p:Slot},F.In st p->st t=some ⟨p,[]⟩->(F.snoc t).In st p
 | .nil,_,_,h=>⟨⟨_,h,rfl,rfl⟩,trivial,trivial⟩
 | .node _ _ _,_,⟨h1,h2,h3⟩,h=>⟨h1,h2,h3.snoc h⟩
theorem Fo.In.add {st st':Slot->Option nw}{p t:Slot}(ht:st' t=some ⟨p,[]⟩)
 (hp:∀x,st p=some x->∃y,st' p=some y/\y.parent=x.parent/\y.kids=x.kids++[t]) (ho:∀s,s≠p->s≠t->st' s=st s) :
 ∀{F:Fo} {q:Slot},F.slots.Nodup->t∉F.slots->F.In st q->(F.add p t).In st' q
 | .nil,_,_,_,_=>trivial
 | .node s kids next,q,hn,hnt,⟨⟨x,h1,h2,h3⟩,h4,h5⟩=>by
  simp only [Fo.slots,List.nodup_cons,List.mem_append,not_or,List.nodup_append] at hn;simp only [Fo.slots,List.mem_cons,List.mem_append,not_or] at hnt;by_cases hs:s=p
  ·subst hs;simp only [Fo.add,if_true];obtain ⟨y,e1,e2,e3⟩:=hp x h1;refine ⟨⟨y,e1,e2.trans h2,by rw [e3,h3,Fo.roots_snoc]⟩,?_,?_⟩
   ·exact (h4.congr (fun a ha=>ho a (fun e=>hn.1.1 (e▸ha)) (fun e=>hnt.2.1 (e▸ha)))).snoc ht
   ·exact h5.congr (fun a ha=>ho a (fun e=>hn.1.2 (e▸ha)) (fun e=>hnt.2.2 (e▸ha)))
  ·simp only [Fo.add,if_neg hs];exact ⟨⟨x,by rw [ho s hs (Ne.symm hnt.1)];exact h1,h2,by rw [Fo.add_roots];exact h3⟩,h4.add ht hp ho hn.2.1 hnt.2.1,h5.add ht hp ho hn.2.2.1 hnt.2.2⟩
theorem Fo.In.ren {st st':Slot->Option nw}{a b:Slot}:
 ∀{F:Fo} {q:Slot},(∀s∈F.slots,∀x,st s=some x->∃y,st' (if s=a then b else s)=some y/\y.parent=(if x.parent=a then b else x.parent)/\y.kids=x.kids.map (fun k=>if k=a then b else k))->
 F.In st q->(F.ren a b).In st' (if q=a then b else q)
 | .nil,_,_,_=>trivial
 | .node s kids next,q,h,⟨⟨x,h1,h2,h3⟩,h4,h5⟩=>by
  simp only [Fo.slots,List.mem_cons,List.mem_append] at h;obtain ⟨y,e1,e2,e3⟩:=h s (.inl rfl) x h1;exact ⟨⟨y,e1,by rw [e2,h2],by rw [e3,h3,Fo.roots_ren]⟩,h4.ren (fun s hs=>h s (.inr (.inl hs))),h5.ren (fun s hs=>h s (.inr (.inr hs)))⟩
theorem Fo.In.parent {st:Slot->Option nw}:∀{F:Fo} {d:Int} {p:Slot},F.In st p->∀{A C:List (Slot×Int)} {s:Slot} {u:Int},F.flat d=A++(s,u) :: C->
 ∃x,st s=some x/\((u=d/\x.parent=p)\/∃A1 q A2,A=A1++(q,u-1) :: A2/\(∀y∈A2,y.2≠u-1)/\x.parent=q)
 | .nil,_,_,_,A,C,s,u,h=>by simp [Fo.flat] at h
 | .node s0 kids next,d,p,⟨⟨x,h1,h2,h3⟩,h4,h5⟩,A,C,s,u,h=>by
  cases A with
  | nil=>
   simp only [Fo.flat,List.nil_append,List.cons.injEq,Prod.mk.injEq] at h;obtain ⟨⟨rfl,rfl⟩,_⟩:=h;exact ⟨x,h1,.inl ⟨rfl,h2⟩⟩
  | cons a A=>
   simp only [Fo.flat,List.cons_append,List.cons.injEq] at h;obtain ⟨rfl,h⟩:=h;rw [List.append_eq_append_iff] at h;rcases h with ⟨A',e1,e2⟩ | ⟨C',e1,e2⟩
   ·obtain ⟨y,r1,r2⟩:=h5.parent (d:=d) e2;refine ⟨y,r1,?_⟩;rcases r2 with r2 | ⟨A1,q,A2,e3,e4,e5⟩
    ·exact .inl r2
    ·exact .inr ⟨(s0,d) :: (kids.flat (d+1)++A1),q,A2,by simp [e1,e3],e4,e5⟩
   ·cases C' with
    | nil=>
     simp only [List.nil_append] at e2;obtain ⟨y,r1,r2⟩:=h5.parent (d:=d) (A:=[]) e2.symm;refine ⟨y,r1,?_⟩;rcases r2 with r2 | ⟨A1,q,A2,e3,e4,e5⟩
     ·exact .inl r2
     ·simp at e3
    | cons c C'=>
     simp only [List.cons_append,List.cons.injEq] at e2;obtain ⟨rfl,e2⟩:=e2;obtain ⟨y,r1,r2⟩:=h4.parent (d:=d+1) e1;refine ⟨y,r1,.inr ?_⟩;rcases r2 with ⟨r2,r3⟩ | ⟨A1,q,A2,e3,e4,e5⟩
     ·refine ⟨[],s0,A,by rw [r2];simp,?_,r3⟩;intro z hz;have:=Fo.flat_ge kids (d+1) z (by rw [e1];simp [hz]);omega
     ·exact ⟨(s0,d) :: A1,q,A2,by simp [e3],e4,e5⟩
def aw.slot (e:aw):Slot:=⟨e.node,e.index⟩
def aw.key (e:aw):Slot×Int:=(e.slot,e.up)
theorem a27 (L:List aw)(u:Int):∀i,i<=L.length->(∀e∈L.take i,e.up≠u-1)->par L u i=(-1,-1)
 | 0,_,_=>rfl
 | i+1,hi,h=>by
  have hi':i<L.length:=hi;rw [ai6 L u i hi' (h L[i] (List.mem_take_iff_getElem.2 ⟨i,by omega,rfl⟩))];exact a27 L u i (by omega) (fun e he=>h e (List.take_subset_take_left L (Nat.le_succ i) he))
theorem a21 (L:List aw)(u:Int)(q:Slot):∀i,i<=L.length->∀A1 A2,(L.take i).map aw.key=A1++(q,u-1) :: A2->(∀y∈A2,y.2≠u-1)->par L u i=(q.node,q.index)
 | 0,_,A1,A2,h,_=>by simp at h
 | i+1,hi,A1,A2,h,hn=>by
  have hi':i<L.length:=hi;rw [List.take_succ_eq_append_getElem hi',List.map_append,List.map_cons,List.map_nil] at h;rcases List.eq_nil_or_concat A2 with rfl | ⟨A3,y,rfl⟩
  ·obtain ⟨_,h2⟩:=List.append_inj' h rfl;simp only [aw.key,List.cons.injEq,Prod.mk.injEq,and_true] at h2;rw [bg7 L u i hi' h2.2,<- h2.1];rfl
  ·have h':(L.take i).map aw.key++[L[i].key]=(A1++(q,u-1) :: A3)++[y]:=by rw [h];simp
   obtain ⟨h1,h2⟩:=List.append_inj' h' rfl;simp only [List.cons.injEq,and_true] at h2;rw [ai6 L u i hi' (fun e=>hn y (by simp) (by rw [<- h2];exact e))]
   exact a21 L u q i (by omega) A1 A3 h1 (fun z hz=>hn z (by simp [hz]))
inductive KCap where
 | untyped (base bits mark:Int)
 | node (base bits rights:Int)
 | endpoint (base bits rights badge:Int)
 | task (base bits rights:Int)
 | frame (base bits rights:Int)
structure oz where
 state:Int
 root:Int
 value:Int
 badge:Int
 err:Int
def upd {κ α:Type}[DecidableEq κ](f:κ->Option α)(k:κ)(v:Option α):κ->Option α:=fun x=>if x=k then v else f x
theorem ai {κ α:Type}[DecidableEq κ](f:κ->Option α)(k:κ)(v:Option α):upd f k v k=v:=by simp [upd]
theorem ae {κ α:Type}[DecidableEq κ](f:κ->Option α){k x:κ}(v:Option α)(h:x≠k):upd f k v x=f x:=by simp [upd,h]
theorem ju {κ α:Type}[DecidableEq κ](k:κ)(v:α)(m:List (κ×α)):(fun x=>am x (putM k v m))=upd (fun x=>am x m) k (some v):=by
 funext x;simp only [g_,upd,eq_comm]
theorem au_ {κ α:Type}[DecidableEq κ](k:κ)(m:List (κ×α))(h:(m.map Prod.fst).Nodup):(fun x=>am x (j3 k m))=upd (fun x=>am x m) k none:=by
 funext x;simp only [j9 k x m h,upd,eq_comm]
structure dx where
 thread:Int
 value:Int
 badge:Int
structure a_ where
 held:Slot->Option KCap
 st:Slot->Option nw
 nodes:Int->Option Int
 thr:Int->Option oz
 ws:Nat->Int
 qs:Int->Option (List dx×List dx)
def nowhere:Slot:=⟨-1,-1⟩
def addS (st:Slot->Option nw)(t p:Slot):Slot->Option nw:=
 let s1:=upd st t (some ⟨p,[]⟩)
 let above:=(s1 p).getD ⟨⟨0,0⟩,[]⟩
 upd s1 p (some ⟨above.parent,above.kids++[t]⟩)
def a_.lay (K:a_)(t:Slot)(c:KCap)(p:Slot):a_:={K with held:=upd K.held t (some c),st:=addS K.st t p}
end Go.Proofs.YtdpjgflemddekaaGreatDoor

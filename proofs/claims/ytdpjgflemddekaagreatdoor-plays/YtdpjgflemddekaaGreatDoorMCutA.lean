/- Slices of elements of some cells: copy, clear, and append of nothing and of zeros, over a block that is known whole. -/
import Derived.Test.YtdpjgflemddekaaGreatDoorMCodeK
import Derived.Lib.SliceRun
import Derived.Deep.RegionLaw
import Derived.Laws.BitsLemmas
set_option maxRecDepth 100000
set_option maxHeartbeats 1000000
namespace Go.Proofs.YtdpjgflemddekaaGreatDoor
open Go.RowKit
def laid (cur:List Value)(o:Nat)(cs:List Value):List Value:=cur.take o++(cs++cur.drop (o+cs.length))
theorem lm {cur cs:List Value}{o:Nat}(h:o+cs.length<=cur.length):(laid cur o cs).length=cur.length:=by
 simp [laid];omega
def Blk (w:World)(g:Nat)(cur:List Value):Prop:=w.heap[g]?=some (.cells cur.toArray 71 (0,0))
theorem Fr.setRow (w:World)(g:Nat)(cs:Array Value):Fr w (w.setRow g cs) (fun k=>k=g):=⟨rfl,rfl,rfl,by simp,fun k _ hk=>setRow_other w g k cs hk⟩
theorem Blk.set {w:World}{g:Nat}{cur cs:List Value}(h:Blk w g cur):Blk (w.setRow g cs.toArray) g cs:=setRow_heap w g _ _ _ _ h
theorem Blk.fr {w w':World}{S:Nat->Prop}{g:Nat}{cur:List Value}(h:Blk w g cur)(hf:Fr w w' S)(hn:¬S g):Blk w' g cur:=hf.same h hn
theorem Blk.cell {w:World}{g:Nat}{cur:List Value}(h:Blk w g cur)(j:Nat):w.cell? ⟨g,j,none⟩=cur[j]?:=by
 rw [cell_of_row w g j _ _ _ h];simp
def ql (w:World)(sp:Option Addr)(cs:List Value):Prop:=0<cs.length->∃ad,sp=some ad/\∀j v,cs[j]?=some v->w.cell? (ad.add j)=some v
theorem ql.nil (w:World)(sp:Option Addr):ql w sp []:=fun h=>by simp at h
theorem Blk.from {w:World}{g:Nat}{cur:List Value}(h:Blk w g cur)(o:Nat)(cs:List Value)(hc:(cur.drop o).take cs.length=cs):ql w (some ⟨g,o,none⟩) cs:=fun _=>⟨_,rfl,fun j v hv=>by
 rw [Addr.add_lit,h.cell];rw [<- hc,List.getElem?_take] at hv;split at hv
 ·simpa using hv
 ·cases hv⟩
section
variable {P:Program} (w:World)
theorem qh (dT sT e:TypeId)(i:TypeInfo)(hu:P.underlying dT=some (.slice e))(hi:P.info? e=some i)(sz:Nat)(hsz:i.size=sz)
 (dp sp:Option Addr) (dLen dCap sLen sCap g off:Nat) (cur cs:List Value) (t:TypeId) (hg:w.heap[g]?=some (.cells cur.toArray t (0,0)))
 (hn:cs.length=Nat.min sLen dLen*sz) (hd:0<cs.length->dp=some ⟨g,off,none⟩) (hs:ql w sp cs) (hfit:off+cs.length<=cur.length) (h1:∀v∈cs,v.oneCell'=true) :
 ∃w',(∀ty,(Builtin.copy_ #[dT,sT] ty #[.slice dp dLen dCap,.slice sp sLen sCap]).run P w=.ok (goInt (Nat.min sLen dLen)) w')/\w'.heap[g]?=some (.cells (laid cur off cs).toArray t (0,0))/\Fr w w' (fun k=>k=g)/\w'.heap.size=w.heap.size:=by
 subst hsz;by_cases h0:cs.length=0
 ·obtain rfl:cs=[]:=List.eq_nil_of_length_eq_zero h0;refine ⟨w,?_,by simpa [laid] using hg,Fr.refl _ _,rfl⟩;have hz:Nat.min sLen dLen*i.size=0:=by simpa using hn.symm
  intro ty;cases sp<;>cases dp<;>simp [Builtin.copy_,run_underlying hu,Builtin.lenOf,Builtin.firstCells,sizeOf,typeInfo,hi,hz,loadCells,loadCellsFrom,storeCells]
 ·obtain ⟨ad,rfl,hsrc⟩:=hs (by omega);obtain rfl:=hd (by omega);have hl:=run_loadCells_list (P:=P) w ad cs hsrc;have hst:=run_storeCells_at P g off t cs 0 cur.toArray w hg (by simpa using hfit) h1;simp only [Nat.add_zero] at hst;refine ⟨w.setRow g (laid cur off cs).toArray,?_,setRow_heap w g _ _ _ _ hg,Fr.setRow w g _,by simp⟩;intro ty;simp [Builtin.copy_,run_underlying hu,Builtin.lenOf,Builtin.firstCells,sizeOf,typeInfo,hi,<- hn,hl,hst,laid]
theorem tp (t e:TypeId)(z:Value)(ht:P.underlying t=some (.slice e))(hv:∀w,(zeroValue e).run P w=.ok z w)(sz:Nat)(hz:z.cells.size=sz)(h1:∀v∈z.cells,v.oneCell'=true)
 (xp:Option Addr) (n g off:Nat) (cur:List Value) (t':TypeId) (hg:w.heap[g]?=some (.cells cur.toArray t' (0,0))) (hd:0<n->xp=some ⟨g,off,none⟩) (hfit:off+n*sz<=cur.length) (hsz:0<sz) :
 ∃w' zs,(∀ty c,(Builtin.clear_ #[t] ty #[.slice xp n c]).run P w=.ok (.tuple #[]) w')/\w'.heap[g]?=some (.cells (laid cur off zs).toArray t' (0,0))/\zs.length=n*sz/\Fr w w' (fun k=>k=g)/\w'.heap.size=w.heap.size:=by
 subst hz;cases n with
 | zero=>
  refine ⟨w,[],?_,by simpa [laid] using hg,by simp,Fr.refl _ _,rfl⟩;intro ty c;cases xp<;>simp [Builtin.clear_,run_underlying ht]
 | succ m=>
  obtain rfl:=hd (by omega);have hzl:(Builtin.zeroCells z.cells (m+1)).toList.length=(m+1)*z.cells.size:=by simp [size_zeroCells]
  have hone:∀v∈(Builtin.zeroCells z.cells (m+1)).toList,v.oneCell'=true:=by
   intro v hv2;simp only [Builtin.zeroCells,Array.toList_map,List.mem_map] at hv2;obtain ⟨j,_,rfl⟩:=hv2;rw [getElem!_pos z.cells (j % z.cells.size) (Nat.mod_lt _ hsz)];exact h1 _ (Array.getElem_mem _)
  have hst:=run_storeCells_at P g off t' (Builtin.zeroCells z.cells (m+1)).toList 0 cur.toArray w hg (by rw [hzl];simpa using hfit) hone;simp only [Nat.add_zero] at hst;refine ⟨w.setRow g (laid cur off (Builtin.zeroCells z.cells (m+1)).toList).toArray,_,?_,setRow_heap w g _ _ _ _ hg,hzl,Fr.setRow w g _,by simp⟩;intro ty c;simp [Builtin.clear_,run_underlying ht,hv,hst,laid]
theorem tu (t ty e:TypeId)(i:TypeInfo)(ht:P.underlying t=some (.slice e))(hi:P.info? e=some i)(base xp:Option Addr)(n cap c:Nat)(hn:n<=cap):
 (Builtin.append_ #[t,t] ty #[.slice base n cap,.slice xp 0 c]).run P w=.ok (.slice base n cap) w:=by
 cases base<;>cases xp<;>simp [Builtin.append_,run_underlying ht,sizeOf,typeInfo,hi,Builtin.lenOf,Builtin.firstCells,loadCells,loadCellsFrom,storeCells,hn]
theorem ad5 (t ti ty e:TypeId)(i:TypeInfo)(z:Value)(kd:IntKind)(ht:P.underlying t=some (.slice e))(hti:P.underlying ti=some (.int kd))(hi:P.info? e=some i)(hz:i.zero=some z)(hsz:0<i.size)(hzs:z.cells.size=i.size)
 (g n cap m:Nat) (xs:List Value) (hxs:xs.length=n*i.size) (hsrc:∀j u,xs[j]?=some u->w.cell? ((⟨g,0,none⟩:Addr).add j)=some u) (hm:0<m) (hgrow:cap<n+m) (hcap:n<=cap)
 (h63:n+m<=maxLen) (hm1:m<=9000000) (hbytes:(n+m)*i.bytes<=140737488355328) :
 ∃c' w' zs,(Builtin.append_ #[t,ti] ty #[.slice (some ⟨g,0,none⟩) n cap,.int .i64 m]).run P w=.ok (.slice (some ⟨w.heap.size,0,none⟩) (n+m) c') w'/\n+m<=c'/\c'<=maxLen/\
  w'.heap[w.heap.size]?=some (.cells (xs++zs).toArray e (0,0))/\(xs++zs).length=c'*i.size/\Fr w w' (fun _=>False):=by
 have hw:IntKind.i64.wrap (m:Int)=m:=by rw [IntKind.wrap_i64];omega
 have hmb:¬(281474976710656<(m:Int)*i.bytes):=by
  have h2:m*i.bytes<=140737488355328:=Nat.le_trans (Nat.mul_le_mul_right _ (by omega)) hbytes;have h3:=Int.ofNat_le.2 h2;rw [Int.natCast_mul] at h3;omega
 have hge:=grownCap_ge w (n+m) cap e;have hcm:grownCap w (n+m) cap e<=maxLen:=grownCap_le_maxLen w (n+m) cap e h63;have hfit:=growslice_fits (old:=cap) (by omega) hbytes;have hfc:=run_firstCells_some (P:=P) w.drew i.size n ⟨g,0,none⟩ n cap xs hxs (by simpa using hsrc);have hn:¬(n+m<=cap):=by omega
 have h63':¬(9223372036854775807<((n:Int)+(m:Int))):=by unfold maxLen at h63;omega
 have h48':¬(281474976710656<Builtin.nextslicecap (n+m) cap*i.bytes):=by omega
 have hm0:¬((m:Int)<0):=by omega
 have hms:¬(m*i.size=0):=by
  have:0<m*i.size:=Nat.mul_pos hm hsz;omega
 refine ⟨grownCap w (n+m) cap e,w.drew.alloc (.cells (xs++((Builtin.zeroCells z.cells m).toList++(Builtin.zeroCells z.cells (grownCap w (n+m) cap e-(n+m))).toList)).toArray e),_,?_,hge,hcm,heap_alloc_new w.drew _,?_,(Fr.refl w _).drew.alloc _⟩
 ·simp [Builtin.append_,run_underlying ht,run_underlying hti,sizeOf,typeInfo,zeroValue,hi,hz,asInt,asIntOf,hw,hm0,hmb,hms,hn,h63',h48',Question.forced,hfc,newRow,grownCap];congr 2;apply Array.ext';simp
 ·simp only [List.length_append,Array.length_toList,size_zeroCells,hzs,hxs,<- Nat.add_mul];congr 1;omega
/-! ### For the walk -/
theorem a03 {o:Oper}{a:Act}{K:Act->World->Prop}{Q:Exit->Act->World->Prop}(d s:Operand)(dT sT:TypeId)(ho:o.op=.call {callee:=.builtin .copy,args:=#[d,s],argTypes:=#[dT,sT]})
 (e:TypeId) (i:TypeInfo) (hu:P.underlying dT=some (.slice e)) (hi:P.info? e=some i) (sz:Nat) (hsz:i.size=sz)
 (dp sp:Option Addr) (dLen dCap sLen sCap g off:Nat) (cur cs:List Value) (t:TypeId) (hde:a.eval d=.slice dp dLen dCap) (hse:a.eval s=.slice sp sLen sCap) (hg:w.heap[g]?=some (.cells cur.toArray t (0,0)))
 (hn:cs.length=Nat.min sLen dLen*sz) (hd:0<cs.length->dp=some ⟨g,off,none⟩) (hs:ql w sp cs) (hfit:off+cs.length<=cur.length) (h1:∀v∈cs,v.oneCell'=true)
 (h:∀w',w'.heap[g]?=some (.cells (laid cur off cs).toArray t (0,0))->Fr w w' (fun k=>k=g)->w'.heap.size=w.heap.size->K (a.put o.dst (goInt (Nat.min sLen dLen))) w'):o.wp P a w K Q:=by
 obtain ⟨w',hr,h2,h3,h4⟩:=qh (P:=P) w dT sT e i hu hi sz hsz dp sp dLen dCap sLen sCap g off cur cs t hg hn hd hs hfit h1;unfold Oper.wp execOp;simp only [ho,resolve,invoke,builtin,Sem.run_bind,Sem.run_pure,Result.andThen_ok,List.map_toArray,List.map_cons,List.map_nil,hde,hse,hr];exact h w' h2 h3 h4
theorem tg {ops:Array Oper}{o:Oper}{a:Act}{K:Act->World->Prop}{Q:Exit->Act->World->Prop}{E:Prop}(hgd:o.guard=none)(d s:Operand)(dT sT:TypeId)(ho:o.op=.call {callee:=.builtin .copy,args:=#[d,s],argTypes:=#[dT,sT]})
 (e:TypeId) (i:TypeInfo) (hu:P.underlying dT=some (.slice e)) (hi:P.info? e=some i) (sz:Nat) (hsz:i.size=sz)
 (dp sp:Option Addr) (dLen dCap sLen sCap g off:Nat) (cur cs:List Value) (t:TypeId) (hde:a.eval d=.slice dp dLen dCap) (hse:a.eval s=.slice sp sLen sCap) (hg:w.heap[g]?=some (.cells cur.toArray t (0,0)))
 (hn:cs.length=Nat.min sLen dLen*sz) (hd:0<cs.length->dp=some ⟨g,off,none⟩) (hs:ql w sp cs) (hfit:off+cs.length<=cur.length) (h1:∀v∈cs,v.oneCell'=true)
 (h:∀w',w'.heap[g]?=some (.cells (laid cur off cs).toArray t (0,0))->Fr w w' (fun k=>k=g)->w'.heap.size=w.heap.size->K (a.put o.dst (goInt (Nat.min sLen dLen))) w') :
 if Region.wanted o (yielded ops a.tmps)=true then Oper.wp P o a w K Q else E:=by
 have hw:Region.wanted o (yielded ops a.tmps)=true:=by simp [Region.wanted,hgd]
 rw [if_pos hw];exact a03 w d s dT sT ho e i hu hi sz hsz dp sp dLen dCap sLen sCap g off cur cs t hde hse hg hn hd hs hfit h1 h
theorem ad4 {ops:Array Oper}{rest:List Oper}{o:Oper}{a:Act}{Q:Exit->Act->World->Prop}(hgd:o.guard=none)(s x:Operand)(t:TypeId)(ho:o.op=.call {callee:=.builtin .append,args:=#[s,x],argTypes:=#[t,t]})
 (e:TypeId) (i:TypeInfo) (ht:P.underlying t=some (.slice e)) (hi:P.info? e=some i) (base xp:Option Addr) (n cap c:Nat) (hn:n<=cap) (hse:a.eval s=.slice base n cap) (hxe:a.eval x=.slice xp 0 c)
 (h:wpList P ops Q rest (a.put o.dst (.slice base n cap)) w):wpList P ops Q (o :: rest) a w:=by
 refine wpList_plain hgd fun _ hK=>?_
 have hr:=tu (P:=P) w t o.type e i ht hi base xp n cap c hn;unfold Oper.wp execOp;simp only [ho,resolve,invoke,builtin,Sem.run_bind,Sem.run_pure,Result.andThen_ok,List.map_toArray,List.map_cons,List.map_nil,hse,hxe,hr];exact hK _ _ h
theorem x_ {ops:Array Oper}{rest:List Oper}{o:Oper}{a:Act}{Q:Exit->Act->World->Prop}(hgd:o.guard=none)(s x:Operand)(t ti:TypeId)(ho:o.op=.call {callee:=.builtin .append,args:=#[s,x],argTypes:=#[t,ti]})
 (e:TypeId) (i:TypeInfo) (z:Value) (kd:IntKind) (ht:P.underlying t=some (.slice e)) (hti:P.underlying ti=some (.int kd)) (hi:P.info? e=some i) (hz:i.zero=some z) (hsz:0<i.size) (hzs:z.cells.size=i.size)
 (g n cap m:Nat) (xs:List Value) (hse:a.eval s=.slice (some ⟨g,0,none⟩) n cap) (hxe:a.eval x=.int .i64 m) (hxs:xs.length=n*i.size) (hsrc:∀j u,xs[j]?=some u->w.cell? ((⟨g,0,none⟩:Addr).add j)=some u) (hm:0<m) (hgrow:cap<n+m) (hcap:n<=cap)
 (h63:n+m<=maxLen) (hm1:m<=9000000) (hbytes:(n+m)*i.bytes<=140737488355328)
 (h:∀c' w' zs,n+m<=c'->c'<=maxLen->w'.heap[w.heap.size]?=some (.cells (xs++zs).toArray e (0,0))->(xs++zs).length=c'*i.size->Fr w w' (fun _=>False)->wpList P ops Q rest (a.put o.dst (.slice (some ⟨w.heap.size,0,none⟩) (n+m) c')) w') :
 wpList P ops Q (o :: rest) a w:=by
 refine wpList_plain hgd fun _ hK=>?_
 obtain ⟨c',w',zs,hr,h2,h3,h4,h5,h6⟩:=ad5 (P:=P) w t ti o.type e i z kd ht hti hi hz hsz hzs g n cap m xs hxs hsrc hm hgrow hcap h63 hm1 hbytes;unfold Oper.wp execOp;simp only [ho,resolve,invoke,builtin,Sem.run_bind,Sem.run_pure,Result.andThen_ok,List.map_toArray,List.map_cons,List.map_nil,hse,hxe,hr];exact hK _ _ (h c' w' zs h2 h3 h4 h5 h6)
theorem an6 {ops:Array Oper}{o:Oper}{a:Act}{K:Act->World->Prop}{Q:Exit->Act->World->Prop}{E:Prop}(hgd:o.guard=none)(s x:Operand)(t:TypeId)(ho:o.op=.call {callee:=.builtin .append,args:=#[s,x],argTypes:=#[t,t]})
 (e:TypeId) (i:TypeInfo) (ht:P.underlying t=some (.slice e)) (hi:P.info? e=some i) (sz:Nat) (hsz:i.size=sz) (g n cap:Nat) (cur:List Value) (sp:Option Addr) (m c:Nat) (cs:List Value)
 (hse:a.eval s=.slice (some ⟨g,0,none⟩) n cap) (hxe:a.eval x=.slice sp m c) (hg:w.heap[g]?=some (.cells cur.toArray e (0,0))) (hn:cs.length=m*sz) (hs:ql w sp cs) (hpos:0<sz) (h1:∀v∈cs,v.oneCell'=true)
 (hroom:n+m<=cap) (hfit:n*sz+cs.length<=cur.length)
 (h:∀w',w'.heap[g]?=some (.cells (laid cur (n*sz) cs).toArray e (0,0))->Fr w w' (fun k=>k=g)->w'.heap.size=w.heap.size->K (a.put o.dst (.slice (some ⟨g,0,none⟩) (n+m) cap)) w') :
 if Region.wanted o (yielded ops a.tmps)=true then Oper.wp P o a w K Q else E:=by
 have hw:Region.wanted o (yielded ops a.tmps)=true:=by simp [Region.wanted,hgd]
 rw [if_pos hw];subst hsz;unfold Oper.wp execOp;by_cases h0:m=0
 ·subst h0;obtain rfl:cs=[]:=List.eq_nil_of_length_eq_zero (by simpa using hn);have hr:=tu (P:=P) w t o.type e i ht hi (some ⟨g,0,none⟩) sp n cap c (by omega);simp only [ho,resolve,invoke,builtin,Sem.run_bind,Sem.run_pure,Result.andThen_ok,List.map_toArray,List.map_cons,List.map_nil,hse,hxe,hr];exact h w (by simpa [laid] using hg) (Fr.refl _ _) rfl
 ·have hp:0<cs.length:=by rw [hn];exact Nat.mul_pos (by omega) hpos
  obtain ⟨ad,rfl,hsrc⟩:=hs hp;have hr:=run_append_room (P:=P) w t o.type e i ht hi g n cap cur.toArray hg ad m c cs hn hsrc h1 hroom (by simpa using hfit);simp only [ho,resolve,invoke,builtin,Sem.run_bind,Sem.run_pure,Result.andThen_ok,List.map_toArray,List.map_cons,List.map_nil,hse,hxe,hr];refine h _ ?_ (Fr.setRow w g _) (by simp);have:=setRow_heap w g _ (cur.take (n*i.size)++cs++cur.drop (n*i.size+cs.length)).toArray _ _ hg;simpa [laid] using this
end
theorem ux (l:List Slot)(i:Nat):bo (l.take i)=(bo l).take (i*2):=by
 induction l generalizing i with
 | nil=>simp [bo]
 | cons a l ih=>
  cases i with
  | zero=>simp [bo]
  | succ i=>
   have:=ih i;simp only [bo,List.take_succ_cons,List.flatMap_cons] at this ⊢;rw [this,show (i+1)*2=i*2+2 by omega];simp [Slot.vals]
theorem xq (l:List Slot)(i:Nat):bo (l.drop i)=(bo l).drop (i*2):=by
 induction l generalizing i with
 | nil=>simp [bo]
 | cons a l ih=>
  cases i with
  | zero=>simp [bo]
  | succ i=>
   have:=ih i;simp only [bo,List.drop_succ_cons,List.flatMap_cons] at this ⊢;rw [this,show (i+1)*2=i*2+2 by omega];simp [Slot.vals]
theorem oa (l:List Slot):∀u∈bo l,u.oneCell'=true:=fun u hu=>by
 obtain ⟨s,_,h⟩:=List.mem_flatMap.1 hu;exact Slot.one s u h
theorem um {cur cs:List Value}{o n:Nat}(hn:o+cs.length=n)(ho:o<=cur.length):(laid cur o cs).take n=cur.take o++cs:=by
 have h1:(cur.take o++cs).length=n:=by simp;omega
 rw [laid,<- List.append_assoc,<- h1,List.take_left]
theorem te {cur cs:List Value}{o n:Nat}(hn:n<=o)(ho:o<=cur.length):(laid cur o cs).take n=cur.take n:=by
 rw [laid,List.take_append_of_le_length (by simp;omega),List.take_take,Nat.min_eq_left hn]
theorem na {w:World}{g n cap:Nat}{xs:List Value}(h:w.ownsRow 0 71 2 (.slice (some ⟨g,0,none⟩) n cap) n xs):∃cur,Blk w g cur/\n<=cap/\cap<=maxLen/\cur.length=cap*2/\cur.take (n*2)=xs:=by
 rcases h.2 with ⟨h0,_⟩ | ⟨g',cap',cur,hv,_,hg,h1,h2,h3,h4⟩
 ·cases h0
 ·cases hv;exact ⟨cur.toList,by simpa [Blk] using hg,h1,h2,by simpa using h3,h4⟩
theorem qq {w:World}{g n cap:Nat}{cur xs:List Value}(h:Blk w g cur)(h1:n<=cap)(h2:cap<=maxLen)(h3:cur.length=cap*2)(h4:cur.take (n*2)=xs):w.ownsRow 0 71 2 (.slice (some ⟨g,0,none⟩) n cap) n xs:=by
 refine ⟨?_,.inr ⟨g,cap,cur.toArray,rfl,Nat.zero_le _,h,h1,h2,by simpa using h3,by simpa using h4⟩⟩;rw [<- h4,List.length_take];omega
theorem al3 (w:World):(zeroValue 71).run Tryz.prog w=.ok (.agg #[.int .i64 0,.int .i64 0]) w:=by kernel_rfl
theorem vq:∀v∈(Value.agg #[.int .i64 0,.int .i64 0]).cells,v.oneCell'=true:=by decide
theorem a85 (w:World)(g cap i:Nat)(l:List Slot)(hown:w.ownsRow 0 71 2 (.slice (some ⟨g,0,none⟩) l.length cap) l.length (bo l))(hi:i<l.length)(hl:l.length<=1000000):
 Calls Tryz.prog 116 #[.slice (some ⟨g,0,none⟩) l.length cap,.int .i64 i,.int .i64 (i+1)] w fun e w'=>e=.returned (.slice (some ⟨g,0,none⟩) (l.length-1) cap)/\
  w'.ownsRow 0 71 2 (.slice (some ⟨g,0,none⟩) (l.length-1) cap) (l.length-1) (bo (l.take i++l.drop (i+1)))/\Fr w w' (fun k=>k=g):=by
 obtain ⟨i0,hi0,hz0,hz1,hz2⟩:=info_parts ol;obtain ⟨cur,hb,hnc,hcm,hlen,htake⟩:=na hown;obtain ⟨n,hn⟩:∃n,n=l.length:=⟨_,rfl⟩;obtain ⟨cs,hcs⟩:∃cs,cs=bo (l.drop (i+1)):=⟨_,rfl⟩;have hcl:cs.length=(n-(i+1))*2:=by rw [hcs,rr];simp [hn]
 have hcm2:cap<=9223372036854775807:=by unfold maxLen at hcm;omega
 rw [<- hn] at hi hl hnc htake ⊢;have hic:i<=cap:=by omega
 have hjc:i+1<=cap:=by omega
 have hij:¬((i:Int)=(i:Int)+1):=by omega
 obtain ⟨sp,hsp⟩:∃sp:Option Addr,sp=(if cap=i+1 then some ⟨g,0,none⟩ else some ⟨g,(i+1)*2,none⟩):=⟨_,rfl⟩;have hfrom:ql w sp cs:=by
  rw [hsp];split
  ·obtain rfl:cs=[]:=List.eq_nil_of_length_eq_zero (by rw [hcl];omega);exact ql.nil _ _
  ·refine hb.from _ cs ?_;rw [hcs,xq,<- htake,List.drop_take,List.length_take,List.length_drop,hlen];rw [show min (n*2-(i+1)*2) (cap*2-(i+1)*2)=n*2-(i+1)*2 by omega]
 have hone:∀v∈cs,v.oneCell'=true:=by rw [hcs];exact oa _
 have hfit:i*2+cs.length<=cur.length:=by rw [hcl,hlen];omega
 have HN:Hid (n=l.length):=hn;have HC:Hid (cs=bo (l.drop (i+1))):=hcs;have hFd:ql w.drew sp cs:=hfrom;have hbd:Blk w.drew g cur:=hb;have hsum:i+(n-(i+1))=n-1:=by omega
 have Hsum:Hid (i+(n-(i+1))=n-1):=hsum;have hroom:i+(n-(i+1))<=cap:=by omega
 have Hsp:Hid (sp=(if cap=i+1 then some ⟨g,0,none⟩ else some ⟨g,(i+1)*2,none⟩)):=hsp;have hz3:(0:Int)<=(i:Int)+1:=by omega
 have hz4:(i:Int)+1<=(n:Int):=by omega
 clear hown hn hcs hfrom hsum hsp;go_enter Tryz.func116,Tryz.ntmps116
 go_wp2_with fail
 go_region_law (go_must (refine an6 _ rfl (.tmp 22) (.tmp 25) 96 rfl 71 i0 Tryz.underlying96 hi0 2 hz1 g i cap cur sp (n-(i+1)) (cap-(i+1)) cs (by simp [Act.eval,Act.put]) (by rw [Hsp.out];simp [Act.eval,Act.put]) hbd hcl hFd (by decide) hone hroom hfit ?_);rw [Hsum.out];intro W1 hb1 hF1 hs1)
 have hl1:(laid cur (i*2) cs).length=cap*2:=(lm hfit).trans hlen;have hcc:(n-1)*2+(n-(n-1))*2<=(laid cur (i*2) cs).length:=by rw [hl1];omega
 have hrow:(laid cur (i*2) cs).take ((n-1)*2)=bo (l.take i++l.drop (i+1)):=by
  rw [um (by rw [hcl];omega) (by rw [hlen];omega),ff,<- HC.out,ux,<- htake,List.take_take,Nat.min_eq_left (by omega)]
 obtain ⟨W2,zs,hrun,hb2,hzl,hF2,hs2⟩:=tp (P:=Tryz.prog) W1 96 71 _ Tryz.underlying96 al3 2 rfl vq (some ⟨g,(n-1)*2,none⟩) (n-(n-1)) g ((n-1)*2) _ _ hb1 (fun _=>rfl) hcc (by decide);have hfin:W2.ownsRow 0 71 2 (.slice (some ⟨g,0,none⟩) (n-1) cap) (n-1) (bo (l.take i++l.drop (i+1))):=by
  refine qq (cur:=laid (laid cur (i*2) cs) ((n-1)*2) zs) hb2 (by omega) hcm ?_ ?_
  ·rw [lm (by rw [hzl];exact hcc),hl1]
  ·rw [te (Nat.le_refl _) (by rw [hl1];omega),hrow]
 have hfr:Fr w W2 (fun k=>k=g):=(((Fr.refl w _).drew).step hF1 (fun _ h=>.inl h)).step hF2 (fun _ h=>.inl h);clear hb2 hF2 hF1 hrow hcc hl1 hb1;go_wp2;all_goals
  go_ret;first
  | exact ⟨rfl,hfin,hfr⟩
  |(have h:=‹cap=i+1›;rw [h] at hfin;exact ⟨rfl,hfin,hfr⟩)
theorem ak4 {w:World}{A:Option Addr}{m vc:Nat}{xs:List Value}(h:w.ownsRow 0 71 2 (.slice A m vc) m xs):ql w A xs:=fun h0=>by
 rcases h.2 with ⟨_,h1⟩ | ⟨b,cap,cur,hv,_,hg,h1,h2,h3,h4⟩
 ·rw [h.1,h1] at h0;omega
 ·cases hv
  exact ⟨_,rfl,h.cells (g:=b) rfl⟩
theorem ql.fr {w w':World}{S:Nat->Prop}{A:Option Addr}{xs:List Value}(h:ql w A xs)(hf:Fr w w' S)(hn:∀a,A=some a->¬S a.block):ql w' A xs:=fun h0=>by
 obtain ⟨ad,rfl,hc⟩:=h h0;exact ⟨ad,rfl,fun j v hv=>hf.cell (hc j v hv) (by have:=hn ad rfl;unfold Addr.add;split<;>exact this)⟩
theorem al1 {i m n T:Nat}(hi:i+1<=n)(hm:m<=1000000)(hn:n<=1000000)(hT:T=n-1+m):IntKind.i64.wrap ((i:Int)+(m:Int))=(i:Int)+(m:Int)/\IntKind.i64.wrap ((i:Int)+(m:Int)+((n-(i+1):Nat):Int))=(T:Int):=by
 constructor<;>(rw [IntKind.wrap_i64];omega)
theorem a61 (w:World)(g cap i m vc:Nat)(A:Option Addr)(l ks:List Slot)(hown:w.ownsRow 0 71 2 (.slice (some ⟨g,0,none⟩) l.length cap) l.length (bo l))(hi:i+1<l.length)(hl:l.length<=1000000)
 (hv:w.ownsRow 0 71 2 (.slice A m vc) m (bo ks)) (hm:m<=1) :
 Calls Tryz.prog 117 #[.slice (some ⟨g,0,none⟩) l.length cap,.int .i64 i,.int .i64 (i+1),.slice A m vc] w fun e w'=>∃T,T=l.length-1+m/\e=.returned (.slice (some ⟨g,0,none⟩) T cap)/\
  w'.ownsRow 0 71 2 (.slice (some ⟨g,0,none⟩) T cap) T (bo (l.take i++(ks++l.drop (i+1))))/\Fr w w' (fun k=>k=g):=by
 obtain ⟨i0,hi0,hz0,hz1,hz2⟩:=info_parts ol;obtain ⟨cur,hb,hnc,hcm,hlen,htake⟩:=na hown;obtain ⟨n,hn⟩:∃n,n=l.length:=⟨_,rfl⟩;obtain ⟨T,hT⟩:∃T,T=n-1+m:=⟨_,rfl⟩;obtain ⟨d,hd⟩:∃d,d=n-(i+1):=⟨_,rfl⟩;obtain ⟨c1,hc1⟩:∃c1,c1=bo ks:=⟨_,rfl⟩;obtain ⟨c2,hc2⟩:∃c2,c2=bo (l.drop (i+1)):=⟨_,rfl⟩;have hl1:c1.length=m*2:=by rw [hc1];exact hv.1
 have hl2:c2.length=d*2:=by rw [hc2,rr,hd];simp [hn]
 have hcm2:cap<=9223372036854775807:=by unfold maxLen at hcm;omega
 rw [<- hn] at hi hl hnc htake ⊢;rw [<- hT];have hic:i<=cap:=by omega
 have hjc:i+1<=cap:=by omega
 have hij:¬((i:Int)=(i:Int)+1):=by omega
 have hz3:(0:Int)<=(i:Int)+1:=by omega
 have hz4:(i:Int)+1<=(n:Int):=by omega
 have hz5:¬((i:Int)+1=(n:Int)):=by omega
 have hsrc:ql w A c1:=by rw [hc1];exact ak4 hv
 obtain ⟨hw1,hw2⟩:=al1 (i:=i) (m:=m) (n:=n) (T:=T) (by omega) (by omega) (by omega) hT;have HN:Hid (n=l.length):=hn;have HT:Hid (T=n-1+m):=hT;have HD:Hid (d=n-(i+1)):=hd;have HC1:Hid (c1=bo ks):=hc1;have HC2:Hid (c2=bo (l.drop (i+1))):=hc2;clear hown hn hT hd hc1 hc2;go_enter Tryz.func117,Tryz.ntmps117
 go_wp2_with fail
 have hne1:¬cap=i+1:=by omega
 go_quiet (fail)
 generalize hw0:w.drewN nq=W0;have hF0:Fr w W0 (fun _=>False):=by rw [<- hw0];exact (Fr.refl _ _).drewN _
 clear hw0 hw1 hw2 nq;have hb0:Blk W0 g cur:=hb.fr hF0 id;have hs0:ql W0 A c1:=hsrc.fr hF0 (fun _ _=>id);have e1:c1.length=Nat.min m (T-i)*2:=by rw [hl1,HT.out];simp only [Nat.min_def];split<;>omega
 have e2:i*2+c1.length<=cur.length:=by rw [hl1,hlen];omega
 obtain ⟨W1,hr1,hb1,hF1,_⟩:=qh (P:=Tryz.prog) W0 96 96 71 i0 Tryz.underlying96 hi0 2 hz1 (some ⟨g,i*2,none⟩) A (T-i) (cap-i) m vc g (i*2) cur c1 _ hb0 e1 (fun _=>rfl) hs0 e2 (by rw [HC1.out];exact oa _);have hTc:(T:Int)<=(cap:Int):=by rw [HT.out];omega
 have hTc':T<=cap:=by omega
 have hT0:¬((cap:Int)<(T:Int)):=by omega
 have hm2:(i:Int)+(m:Int)<=(i:Int)+1:=by omega
 have hne2:¬cap=i:=by omega
 have hiT:i<=T:=by rw [HT.out];omega
 have hw1:IntKind.i64.wrap ((i:Int)+(m:Int))=(i:Int)+(m:Int):=by rw [IntKind.wrap_i64];omega
 clear hb hsrc hb0 hs0 e1;go_wp2_with fail
 have hlu:(laid cur (i*2) c1).length=cap*2:=(lm e2).trans hlen;have hb1d:Blk W1.drew g (laid cur (i*2) c1):=hb1;have hs2:ql W1.drew (some ⟨g,(i+1)*2,none⟩) c2:=by
  refine hb1d.from _ c2 ?_;rw [hl2,HC2.out,xq,<- htake,HD.out];unfold laid;rw [List.drop_append,List.drop_eq_nil_of_le (by simp;omega),List.nil_append,List.drop_append,List.drop_eq_nil_of_le (by simp;omega),List.nil_append,List.drop_drop,List.drop_take];congr 1
  ·omega
  ·congr 1;simp;omega
 have e3:c2.length=Nat.min (n-(i+1)) (T-(i+m))*2:=by rw [hl2,HD.out,HT.out,show n-1+m-(i+m)=n-(i+1) by omega];simp
 have e4:(i+m)*2+c2.length<=(laid cur (i*2) c1).length:=by rw [hl2,hlu,HD.out];omega
 have hne3:¬cap=i+m:=by omega
 have hz6:(0:Int)<=(i:Int)+(m:Int):=by omega
 have hz7:(i:Int)+(m:Int)<=(T:Int):=by rw [HT.out];omega
 have hone2:∀v∈c2,v.oneCell'=true:=by rw [HC2.out];exact oa _
 have htn:((i:Int)+(m:Int)).toNat=i+m:=by omega
 clear hr1 hm2 hTc hT0;go_region_law (go_must (refine tg _ rfl (.tmp 103) (.tmp 106) 96 96 rfl 71 i0 Tryz.underlying96 hi0 2 hz1 (some ⟨g,(i+m)*2,none⟩) (some ⟨g,(i+1)*2,none⟩) (T-(i+m)) (cap-(i+m)) (n-(i+1)) (cap-(i+1)) g ((i+m)*2) _ c2 _ (by simp [Act.eval,Act.put]) (by simp [Act.eval,Act.put]) hb1d e3 (fun _=>rfl) hs2 e4 hone2 ?_);intro W2 hb2 hF2 _)
 have hl3:(laid (laid cur (i*2) c1) ((i+m)*2) c2).length=cap*2:=(lm e4).trans hlu;have hrow:(laid (laid cur (i*2) c1) ((i+m)*2) c2).take (T*2)=bo (l.take i++(ks++l.drop (i+1))):=by
  rw [um (by rw [hl2,HT.out,HD.out];omega) (by rw [hlu];omega),um (by rw [hl1];omega) (by rw [hlen];omega),ff,ff,<- HC1.out,<- HC2.out,ux,<- htake,List.take_take,Nat.min_eq_left (by omega),List.append_assoc]
 obtain ⟨xp,hxp⟩:∃xp:Option Addr,xp=(if cap=T then some ⟨g,0,none⟩ else some ⟨g,T*2,none⟩):=⟨_,rfl⟩;have hTn:0<n-T->¬cap=T:=by omega
 obtain ⟨W3,zs,hr3,hb3,hzl,hF3,_⟩:=tp (P:=Tryz.prog) W2 96 71 _ Tryz.underlying96 al3 2 rfl vq xp (n-T) g (T*2) _ _ hb2 (fun h0=>by rw [hxp,if_neg (hTn h0)]) (by rw [hl3];omega) (by decide)
 have hfin:W3.ownsRow 0 71 2 (.slice (some ⟨g,0,none⟩) T cap) T (bo (l.take i++(ks++l.drop (i+1)))):=by
  refine qq (cur:=laid (laid (laid cur (i*2) c1) ((i+m)*2) c2) (T*2) zs) hb3 hTc' hcm ?_ ?_
  ·rw [lm (by rw [hzl,hl3];omega),hl3]
  ·rw [te (Nat.le_refl _) (by rw [hl3];omega),hrow]
 have hfr:Fr w W3 (fun k=>k=g):=((((hF0.mono (fun _=>False.elim)).step hF1 (fun _ h=>.inl h)).drew).step hF2 (fun _ h=>.inl h)).step hF3 (fun _ h=>.inl h);have hTn2:T<=n:=by rw [HT.out];omega
 have hTn3:(T:Int)<=(n:Int):=by omega
 clear hb3 hF3 hF2 hF1 hF0 hrow hb2 hb1 hb1d hs2 e2 e3 e4 hlu hl3 hone2 hzl;rw [hxp] at hr3;by_cases hct:cap=T
 ·rw [if_pos hct] at hr3;go_wp2;go_ret;exact ⟨T,rfl,rfl,hfin,hfr⟩
 ·rw [if_neg hct] at hr3;go_wp2;go_ret;exact ⟨T,rfl,rfl,hfin,hfr⟩
end Go.Proofs.YtdpjgflemddekaaGreatDoor

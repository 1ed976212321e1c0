/- The code: slices.Index at slots. -/
import Derived.Test.YtdpjgflemddekaaGreatDoorMCodeG
import Derived.Deep.QuietTactic
import Derived.BigQuiet
set_option maxRecDepth 100000
set_option maxHeartbeats 4000000
namespace Go.Proofs.YtdpjgflemddekaaGreatDoor
open Go.RowKit
def az9 (s:Slot)(l:List Slot):Int:=ad7 (l.findIdx? fun x=>decide (x=s))
theorem b34 {s:Slot}{l:List Slot}{k:Nat}(hk:k<l.length)(h:l[k]=s)(hn:∀j (hj:j<l.length),j<k->l[j]≠s):az9 s l=(k:Int):=by
 have:l.findIdx? (fun x=>decide (x=s))=some k:=by
  rw [List.findIdx?_eq_some_iff_getElem];exact ⟨hk,by simpa using h,fun j hj=>by simpa using hn j (by omega) hj⟩
 simp [az9,this,ad7]
theorem bi7 {s:Slot}{l:List Slot}(hn:∀j (hj:j<l.length),l[j]≠s):az9 s l=-1:=by
 have:l.findIdx? (fun x=>decide (x=s))=none:=by
  rw [List.findIdx?_eq_none_iff];intro x hx;obtain ⟨j,hj,rfl⟩:=List.getElem_of_mem hx;simpa using hn j hj
 simp [az9,this,ad7]
theorem a25 (a b c d:Int)(w:World):(binOp .eql 71 (.agg #[.int .i64 a,.int .i64 b]) (.agg #[.int .i64 c,.int .i64 d])).run Tryz.prog w=.ok (.bool (decide ((⟨a,b⟩:Slot)=⟨c,d⟩))) w:=by
 have:=aq3 ⟨a,b⟩ ⟨c,d⟩ w;simp only [Slot.val,Op.equal,Op.maxDepth] at this;rw [run_eql_struct,this];rfl
theorem vd {w:World}{v:Value}{l:List Slot}(h:sh w Slot.vals 2 v l):∃A cap,v=.slice A l.length cap/\(0<l.length->∃g,A=some ⟨g,0,none⟩/\∀i (hi:i<l.length),w.cell? ⟨g,i*2,none⟩=some (.int .i64 l[i].node)/\w.cell? ⟨g,i*2+1,none⟩=some (.int .i64 l[i].index)):=by
 obtain ⟨A,cap,hv,hA⟩:=h;refine ⟨A,cap,hv,fun h0=>?_⟩
 obtain ⟨g,hg,hc⟩:=hA h0;exact ⟨g,hg,fun i hi=>⟨hc i hi 0 _ rfl,hc i hi 1 _ rfl⟩⟩
theorem as3 (l:List Slot)(v:Value)(s:Slot)(w:World)(hv:sh w Slot.vals 2 v l)(hl:l.length<=1000000):
 Calls Tryz.prog 99 #[v,.agg #[.int .i64 s.node,.int .i64 s.index]] w fun e w'=>e=.returned (.int .i64 (az9 s l))/\Fr w w' (fun _=>False):=by
 obtain ⟨A,cap,rfl,hA⟩:=vd hv;generalize hans:az9 s l=ans;go_enter Tryz.func99,Tryz.ntmps99
 go_wp2;generalize hW0:w.alloc _=W0;have hf0:Fr w W0 (fun _=>False):=by rw [<- hW0];exact (Fr.refl _ _).alloc _
 have hb0:W0.heap[w.heap.size]?=some (.cells #[.int .i64 s.node,.int .i64 s.index] 71 (0,0)):=by rw [<- hW0];exact heap_alloc_new _ _
 clear hW0;have s0:=aa (o:=0) hb0 rfl;have s1:=aa (o:=1) hb0 rfl;go_loopw [8] (fun iv wr=>∃(k:Nat) (q:Nat),k<=l.length/\iv=.int .i64 k/\wr=W0.drewN q/\∀j (hj:j<l.length),j<k->l[j]≠s) (fun iv _=>l.length-(intOf iv).toNat)
 case atStart=>exact ⟨0,0,Nat.zero_le _,rfl,rfl,fun j _ h=>absurd h (by omega)⟩
 case round=>
  obtain ⟨k,q,hk,rfl,rfl,hno⟩:=hrel;by_cases hlt:k<l.length
  ·obtain ⟨g,rfl,hc⟩:=hA (by omega);obtain ⟨x0,x1⟩:=hc k hlt;have x0':=hf0.cell x0 id;have x1':=hf0.cell x1 id;have hlt2:(k:Int)<(l.length:Int):=by omega
   have hz:(0:Int)<=(k:Int):=by omega
   have heq:=a25 s.node s.index l[k].node l[k].index;clear hc x0 x1 hA hv;by_cases hs:s=l[k]
   ·have hd:decide ((⟨s.node,s.index⟩:Slot)=⟨l[k].node,l[k].index⟩)=true:=decide_eq_true (by exact hs);have hfin:ans=(k:Int):=by rw [<- hans];exact b34 hlt hs.symm hno
    rw [hd] at heq;clear hd hs hans hno;go_wp2;go_quiet (fail)
    go_wp2;go_ret;exact ⟨by first | rfl | (rw [hfin];rfl),by first | exact hf0.drewN _ | exact (hf0.drewN _).drewN _⟩
   ·have hd:decide ((⟨s.node,s.index⟩:Slot)=⟨l[k].node,l[k].index⟩)=false:=decide_eq_false (by exact hs);rw [hd] at heq;clear hd;go_wp2;go_quiet (fail)
    go_wp2;go_roundw;case rel=>exact ⟨k+1,_,by omega,by go_num,(by first | rfl | exact mt _ _ _),fun j hj hjk=>by
     by_cases hjk2:j<k
     ·exact hno j hj hjk2
     ·have:j=k:=by omega
      subst this;exact fun e=>hs e.symm⟩
    case measure=>simp [intOf];omega
  ·have hlt2:¬(k:Int)<(l.length:Int):=by omega
   have hfin:ans=-1:=by rw [<- hans];exact bi7 (fun j hj=>hno j hj (by omega))
   go_wp2;go_ret;exact ⟨by first | rfl | (rw [hfin];rfl),hf0.drewN _⟩
theorem bg.reparent {w w':World}{tb:Nat}{M:List (Slot×bj)}{c b:Slot}{y:bj}(h:bg w tb M)(hy:am c M=some y)(hm:ei w' tb Slot.val bj.val (putM c ⟨b,y.kids,y.sv⟩ M))(hf:Fr w w' (fun k=>k=tb)):
 bg w' tb (putM c ⟨b,y.kids,y.sv⟩ M):=
 bg.put hm hf (fun s x hx _=>h.rest s x hx) h.apart (h.own c y hy) (h.len c y hy) (fun s x hx hne k hk=>h.apart c y s x hy hx (Ne.symm hne) k hk) (fun e=>h.ne hy e)
def sc (M M':List (Slot×bj)):Prop:=∀s,(am s M').map bj.sv=(am s M).map bj.sv
theorem sc.fp {M M':List (Slot×bj)}(h:sc M M'){b k:Nat}(hk:br b M' k):br b M k:=by
 rcases hk with rfl | ⟨s,x,hx,e⟩
 ·exact .inl rfl
 ·have:=h s;rw [hx] at this;cases hl:am s M with
  | none=>rw [hl] at this;cases this
  | some z=>rw [hl] at this;exact .inr ⟨s,z,hl,by simp at this;rw [<- this];exact e⟩
theorem sc.put {M M':List (Slot×bj)}(h:sc M M'){c:Slot}{x y:bj}(hy:am c M'=some y)(hs:x.sv=y.sv):sc M (putM c x M'):=by
 intro s;rw [g_];split
 ·rename_i e;subst e;rw [<- h c,hy];simp [hs]
 ·exact h s
theorem ay6 {M M':List (Slot×bj)}{l:List Slot}{b c:Slot}{k:Nat}(hk:k<l.length)(hc:l[k]=c)(h:cx M'=f_ (cx M) (l.take k) b){y:bj}(hy:am c M'=some y):
 cx (putM c ⟨b,y.kids,y.sv⟩ M')=f_ (cx M) (l.take (k+1)) b:=by
 rw [ru,h];funext s;have hyc:f_ (cx M) (l.take k) b c=some ⟨y.parent,y.kids⟩:=by rw [<- h];simp [cx,hy,bj.std]
 rw [List.take_succ_eq_append_getElem hk,hc];simp only [upd,f_,List.mem_append,List.mem_singleton];by_cases hs:s=c
 ·subst hs;simp only [if_true,or_true];simp only [f_] at hyc;split at hyc
  ·cases hq:cx M s with
   | none=>rw [hq] at hyc;cases hyc
   | some z=>rw [hq] at hyc;simp at hyc;simp [bj.std,hyc.2]
  ·rw [hyc];rfl
 ·simp [hs]
theorem tx (M:List (Slot×bj))(tb:Nat)(l:List Slot)(v:Value)(b:Slot)(w:World)(h:bg w tb M)(hv:sh w Slot.vals 2 v l)(hl:l.length<=1000000)(hvb:v.ownBlock≠some tb)
 (hex:∀c∈l,∃x,am c M=some x) :
 Calls Tryz.prog 100 #[.map (some tb),v,.agg #[.int .i64 b.node,.int .i64 b.index]] w fun e w'=>e=.returned (.tuple #[])/\
  ∃M',bg w' tb M'/\cx M'=f_ (cx M) l b/\sc M M'/\Fr w w' (fun k=>k=tb):=by
 obtain ⟨A,cap,rfl,hA⟩:=vd hv;have hlt:=h.map.lt;go_enter Tryz.func100,Tryz.ntmps100
 go_wp2;generalize hW0:w.alloc _=W0;have hf0:Fr w W0 (fun _=>False):=by rw [<- hW0];exact (Fr.refl _ _).alloc _
 have hb0:W0.heap[w.heap.size]?=some (.cells #[.int .i64 b.node,.int .i64 b.index] 71 (0,0)):=by rw [<- hW0];exact heap_alloc_new _ _
 clear hW0;have hlt0:w.heap.size<W0.heap.size:=(Array.getElem?_eq_some_iff.1 hb0).1;go_loopw [11] (fun iv wr=>∃(k:Nat) (M':List (Slot×bj)),k<=l.length/\iv=.int .i64 k/\bg wr tb M'/\cx M'=f_ (cx M) (l.take k) b/\sc M M'/\Fr W0 wr (fun x=>x=tb)) (fun iv _=>l.length-(intOf iv).toNat)
 case atStart=>exact ⟨0,M,Nat.zero_le _,rfl,h.frame hf0 (fun _ _=>id),by funext s;simp [f_],fun s=>rfl,Fr.refl _ _⟩
 case round=>
  obtain ⟨k,M',hk,rfl,hT,hst,hsr,hfr⟩:=hrel;have hF:Fr w wr (fun x=>x=tb):=(hf0.mono (fun _=>False.elim)).step hfr (fun k hk=>.inl hk);by_cases hlt1:k<l.length
  ·obtain ⟨g,rfl,hc⟩:=hA (by omega);have hgb:g≠tb:=fun e=>hvb (by rw [e];rfl)
   obtain ⟨x0,x1⟩:=hc k hlt1;have x0':=hF.cell x0 hgb;have x1':=hF.cell x1 hgb;have hlt2:(k:Int)<(l.length:Int):=by omega
   have hz:(0:Int)<=(k:Int):=by omega
   obtain ⟨z,hz'⟩:=hex l[k] (List.getElem_mem _);obtain ⟨y,hy⟩:∃y,am l[k] M'=some y:=by
    have:=hsr l[k];rw [hz'] at this;cases hq:am l[k] M' with
    | none=>rw [hq] at this;cases this
    | some y=>exact ⟨y,rfl⟩
   have hstep:=ay6 hlt1 rfl hst hy;have hsr2:=hsr.put (x:=⟨b,y.kids,y.sv⟩) hy rfl;have hbw:=hfr.same hb0 (by omega);have hwlt:=hfr.size;have hwl:w.heap.size<wr.heap.size:=by omega
   have hown:=hT.own _ _ hy;obtain ⟨A2,cap2,hsv⟩:=cz hown;obtain ⟨yp,yk,ys⟩:=y;dsimp only at hsv hstep hsr2;subst hsv;clear hc x0 x1 hA hv hst;generalize l[k]=ck at *
   have hgl:=World.block_lt_of_cell? _ _ x0';have hrw:iy bj.val (.agg #[.int .i64 0,.int .i64 0,.slice none 0 0]) (am ck M')=.agg #[.int .i64 yp.node,.int .i64 yp.index,.slice A2 yk.length cap2]:=by rw [hy];rfl
   have b0:=aa (o:=0) hbw rfl;have b1:=aa (o:=1) hbw rfl;go_wp2_with (first
    |(at_lookup;go_must (refine ij _ rfl _ _ 61 false rfl em Tryz.underlying61 (ka _) (m:=M') (enc:=bj.val) rfl (hT.map.frame ((Fr.refl _ (fun _=>False)).alloc _) id) ck rfl ?_);simp only [Bool.false_eq_true,if_false];rw [hrw])
    |(at_mapUpdate;go_must (refine ls _ rfl _ _ _ 61 rfl em Tryz.underlying61 (m:=M') (enc:=bj.val) rfl ?_ ck rfl ⟨b,yk,.slice A2 yk.length cap2⟩ rfl ?_)))
   ·exact hT.map.frame (((Fr.refl _ (fun _=>False)).alloc _).alloc _) id
   generalize hW1:(wr.alloc _).alloc _=W1;have hf1:Fr wr W1 (fun _=>False):=by rw [<- hW1];exact ((Fr.refl _ _).alloc _).alloc _
   clear hW1;intro W2 hm2 hf2 hs2;have hT2:=(hT.frame hf1 (fun _ _=>id)).reparent hy hm2 hf2;clear b0 b1 x0' x1' hm2;go_wp2;go_roundw;case rel=>exact ⟨k+1,_,by omega,by go_num,hT2,hstep,hsr2,(hfr.step hf1 (fun _=>False.elim)).step hf2 (fun k hk=>.inl hk)⟩
   case measure=>simp [intOf];omega
  ·have hlt2:¬(k:Int)<(l.length:Int):=by omega
   have hst2:cx M'=f_ (cx M) l b:=by rw [hst,List.take_of_length_le (by omega)]
   clear hst;go_wp2;go_end0;exact ⟨rfl,M',hT,hst2,hsr,hF⟩
theorem zo {P:Program}{κ α:Type}[DecidableEq κ]{val:κ->Value}{enc:α->Value}(w:World){ops:Array Oper}{rest:List Oper}{o:Oper}{a:Act}{Q:Exit->Act->World->Prop}
 (hg:o.guard=none) (x1 x2:Operand) (t kt:TypeId) (hop:o.op=Op.call {callee:=Callee.builtin Builtin.delete,args:=#[x1,x2],argTypes:=#[t,kt]}) {et:TypeId} (K:ad1 P kt val) (ht:P.underlying t=some (.map kt et))
 {b:Nat} {m:List (κ×α)} (hm:a.eval x1=.map (some b)) (h:ei w b val enc m) (k:κ) (hx:a.eval x2=val k)
 (hK:∀w',ei w' b val enc (j3 k m)->Fr w w' (fun x=>x=b)->w'.heap.size=w.heap.size->wpList P ops Q rest (a.put o.dst (.tuple #[])) w') :
 wpList P ops Q (o :: rest) a w:=by
 refine wpList_plain hg fun K' hK'=>?_
 obtain ⟨w',hrun,r1,r2,r3⟩:=h.del_run (ty:=o.type) K ht k;unfold Oper.wp;simp [execOp,hop,resolve,invoke,builtin,hm,hx,hrun,Result.andThen];exact hK' _ _ (hK w' r1 r2 r3)
theorem bg.del {w w':World}{tb:Nat}{M:List (Slot×bj)}(h:bg w tb M){c:Slot}(hm:ei w' tb Slot.val bj.val (j3 c M))(hf:Fr w w' (fun k=>k=tb)):bg w' tb (j3 c M):=by
 have key:∀s y,am s (j3 c M)=some y->am s M=some y:=by
  intro s y hy;rw [j9 c s M h.map.nodup] at hy;split at hy
  ·cases hy
  ·exact hy
 exact ⟨hm,fun s x hx=>hf.owns (h.own s x (key s x hx)) (fun k hk e=>h.ne (key s x hx) (e▸hk)),fun s x hx=>h.len s x (key s x hx),fun s x s' x' hx hx'=>h.apart s x s' x' (key s x hx) (key s' x' hx')⟩
theorem ei.alike {κ α:Type}[DecidableEq κ]{val:κ->Value}{enc:α->Value}{w:World}{b:Nat}{m:List (κ×α)}(h:ei w b val enc m){k:κ}{v v':α}(hk:am k m=some v)(he:enc v'=enc v):ei w b val enc (putM k v' m):=by
 obtain ⟨es,cl,hb,hkv,hsd⟩:=h.blk;refine ⟨⟨es,cl,hb,?_,hsd⟩,xv h.nodup⟩;rw [hkv];clear hkv hb h hsd;induction m with
 | nil=>cases hk
 | cons p m ih=>
  simp only [am] at hk;simp only [putM];split at hk
  ·rename_i e;cases hk
   simp [jq,e,he]
  ·rename_i e;simp only [e,if_false];simp only [jq,List.map_cons];exact congrArg _ (ih hk)
theorem y9 {a b:Slot}:∀{l:List Slot},l.Nodup->∀i,(hi:i<l.length)->l[i]=a->l.map (fun k=>if k=a then b else k)=l.set i b
 | [],_,i,hi,_=>by simp at hi
 | x :: l,hn,0,_,h=>by
  simp only [List.nodup_cons] at hn;simp only [List.getElem_cons_zero] at h;subst h;simp only [List.map_cons,if_true,List.set_cons_zero,List.cons.injEq,true_and];conv=>rhs;rw [<- List.map_id l]
  exact List.map_congr_left (fun y hy=>by simp [show y≠x from fun e=>hn.1 (e▸hy)])
 | x :: l,hn,i+1,hi,h=>by
  simp only [List.nodup_cons] at hn;simp only [List.getElem_cons_succ] at h;have hx:x≠a:=fun e=>hn.1 (by rw [e,<- h];exact List.getElem_mem _)
  simp only [List.map_cons,hx,if_false,List.set_cons_succ];rw [y9 hn.2 i (by simpa using hi) h]
theorem bv_ {w:World}{b t s n g cap:Nat}{xs:List Value}(h:w.ownsRow b t s (.slice (some ⟨g,0,none⟩) n cap) n xs)(i:Nat):w.frozen? ⟨g,i*2,none⟩=false/\w.frozen? ⟨g,i*2+1,none⟩=false:=by
 rcases h.2 with ⟨h0,_⟩ | ⟨g',cap',cur,hv,_,hg,_⟩
 ·cases h0
 ·cases hv;exact ⟨ab hg,ab hg⟩
theorem be9 (w:World)(b o:Nat)(x y:Value):Fr w ((w.setCell ⟨b,o,none⟩ x).setCell ⟨b,o+1,none⟩ y) (fun k=>k=b):=(Fr.set1 w b o x).step (Fr.set1 _ b (o+1) y) (fun _ h=>.inl h)
theorem va (a b c:Value)(w:World):(Instr.field 98 (.agg #[a,b,c]) 1).run Tryz.prog w=.ok c w:=by kernel_rfl
theorem bv2 (l:List Slot)(i:Nat)(hi:i<l.length)(b:Slot):((bo l).set (i*2) (.int .i64 b.node)).set (i*2+1) (.int .i64 b.index)=bo (l.set i b):=by
 have h0:=lg Slot.vals 2 Slot.vals_len (.int .i64 b.node) ⟨b.node,l[i].index⟩ l i 0 hi (by omega) (by simp [Slot.vals]);have h1:=lg Slot.vals 2 Slot.vals_len (.int .i64 b.index) b (l.set i ⟨b.node,l[i].index⟩) i 1 (by simpa using hi) (by omega) (by simp [Slot.vals]);unfold bo;rw [show i*2=i*2+0 by omega,h0,show i*2+0+1=i*2+1 by omega,h1];simp
theorem a20 {a:Slot}{l:List Slot}(h:a∈l):∃i,∃hi:i<l.length,az9 a l=(i:Int)/\l[i]=a:=by
 cases hf:l.findIdx? (fun x=>decide (x=a)) with
 | none=>
  rw [List.findIdx?_eq_none_iff] at hf;have:=hf a h;simp at this
 | some i=>
  have hf2:=hf;rw [List.findIdx?_eq_some_iff_getElem] at hf;obtain ⟨hi,h1,_⟩:=hf;exact ⟨i,hi,by simp [az9,hf2,ad7],by simpa using h1⟩
theorem bj1 (M:List (Slot×bj))(tb:Nat)(a b p:Slot)(x y:bj)(w:World)(h:bg w tb M)(hx:am a M=some x)(hb:am b M=none)(hp:x.parent=p)(hy:am p M=some y)(hpa:p≠a)(hin:a∈y.kids)(hnd:y.kids.Nodup)
 (hkids:∀c∈x.kids,(∃z,am c M=some z)/\c≠a) :
 Calls Tryz.prog 69 #[.map (some tb),.agg #[.int .i64 a.node,.int .i64 a.index],.agg #[.int .i64 b.node,.int .i64 b.index]] w fun e w'=>e=.returned (.tuple #[])/\
  ∃M',bg w' tb M'/\cx M'=rc (cx M) a b/\Fr w w' (br tb M)/\(∀k,br tb M' k->br tb M k):=by
 have hlt:=h.map.lt;have hab:a≠b:=fun e=>by rw [e,hb] at hx;cases hx
 have hpb:p≠b:=fun e=>by rw [e,hb] at hy;cases hy
 obtain ⟨A,cap,hsv⟩:=cz (h.own a x hx);obtain ⟨xp,xk,xs⟩:=x;dsimp only at hsv hp;subst hsv hp;have hxf:iy bj.val (.agg #[.int .i64 0,.int .i64 0,.slice none 0 0]) (am a M)=.agg #[.int .i64 xp.node,.int .i64 xp.index,.slice A xk.length cap]:=by rw [hx];rfl
 go_enter Tryz.func69,Tryz.ntmps69
 go_wp2_with (first
  |(at_lookup;go_must (refine ij _ rfl _ _ 61 false rfl em Tryz.underlying61 (ka _) (m:=M) (enc:=bj.val) rfl (h.map.frame (((Fr.refl _ (fun _=>False)).alloc _).alloc _) id) a rfl ?_);simp only [Bool.false_eq_true,if_false];rw [hxf])
  |(at_delete;go_must (refine zo _ rfl _ _ 61 71 rfl em Tryz.underlying61 (m:=M) (enc:=bj.val) rfl (h.map.frame ((((Fr.refl _ (fun _=>False)).alloc _).alloc _).alloc _) id) a rfl ?_)))
 generalize hW0:World.alloc _ _=W0;obtain ⟨hf0,hs0,hba,hbb,hbx⟩:=un hW0;clear hW0;intro W1 hm1 hf1 hs1;have h0:=h.frame hf0 (fun _ _=>id);have h1:=h0.del hm1 hf1;have hba1:=hf1.same hba (by omega);have hbb1:=hf1.same hbb (by omega);have hbx1:=hf1.same hbx (by omega);have a0:=aa (o:=0) hba1 rfl;have a1:=aa (o:=1) hba1 rfl;have b0:=aa (o:=0) hbb1 rfl;have b1:=aa (o:=1) hbb1 rfl;have x0:=aa (o:=0) hbx1 rfl;have x1:=aa (o:=1) hbx1 rfl;have x2:=aa (o:=2) hbx1 rfl;have hF1:Fr w W1 (fun k=>k=tb):=(hf0.mono (fun _=>False.elim)).step hf1 (fun k hk=>.inl hk);go_wp2_with (at_mapUpdate;go_must (refine ls _ rfl _ _ _ 61 rfl em Tryz.underlying61 (m:=j3 a M) (enc:=bj.val) rfl h1.map b rfl ⟨xp,xk,.slice A xk.length cap⟩ rfl ?_))
 intro W2 hm2 hf2 hs2;have hd1:∀s,s≠a->am s (j3 a M)=am s M:=fun s hs=>by rw [j9 a s M h.map.nodup,if_neg (Ne.symm hs)]
 have hd2:am a (j3 a M)=none:=by rw [j9 a a M h.map.nodup,if_pos rfl]
 have hkey:∀s z,am s (j3 a M)=some z->s≠a/\am s M=some z:=fun s z hz=>by
  by_cases e:s=a
  ·subst e;rw [hd2] at hz;cases hz
  ·exact ⟨e,by rw [<- hd1 s e];exact hz⟩
 have h2:bg W2 tb (putM b ⟨xp,xk,.slice A xk.length cap⟩ (j3 a M)):=bg.put hm2 hf2 (fun s z hz _=>h1.rest s z hz) h1.apart (hF1.owns (h.own a _ hx) (fun k hk e=>h.ne hx (e▸hk))) (h.len a _ hx)
  (fun s z hz _ k hk=>h.apart a _ s z hx (hkey s z hz).2 (Ne.symm (hkey s z hz).1) k hk) (fun e=>h.ne hx e)
 have hl2:∀s,am s (putM b ⟨xp,xk,.slice A xk.length cap⟩ (j3 a M))=if b=s then some ⟨xp,xk,.slice A xk.length cap⟩ else am s (j3 a M):=fun s=>g_ _ _ _ _
 have hst2:cx (putM b ⟨xp,xk,.slice A xk.length cap⟩ (j3 a M))=upd (upd (cx M) a none) b (some ⟨xp,xk⟩):=by rw [ru,a02 _ _ h.map.nodup];rfl
 generalize putM b ⟨xp,xk,.slice A xk.length cap⟩ (j3 a M)=M2 at hm2 h2 hl2 hst2;have hyp:am xp M2=some y:=by rw [hl2,if_neg (Ne.symm hpb),hd1 _ hpa];exact hy
 have hba2:=hf2.same hba1 (by omega);have hbb2:=hf2.same hbb1 (by omega);have hbx2:=hf2.same hbx1 (by omega);have hF2:Fr w W2 (fun k=>k=tb):=hF1.step hf2 (fun k hk=>.inl hk);clear a0 a1 b0 b1 x0 x1 x2 hf0 hf1 hf2 hba hbb hbx hba1 hbb1 hbx1 h0 h1 hm1 hs1 hs2 hm2;have a0:=aa (o:=0) hba2 rfl;have a1:=aa (o:=1) hba2 rfl;have b0:=aa (o:=0) hbb2 rfl;have b1:=aa (o:=1) hbb2 rfl;have x0:=aa (o:=0) hbx2 rfl;have x1:=aa (o:=1) hbx2 rfl;have hyl:0<y.kids.length:=List.length_pos_of_mem hin;obtain ⟨g,gc,hsv,hgc,hgm,hglt⟩:=ep (h2.own xp y hyp) hyl;obtain ⟨yp,yk,ys⟩:=y;dsimp only at hsv hin hnd hyl hgc;subst hsv;have hyf:iy bj.val (.agg #[.int .i64 0,.int .i64 0,.slice none 0 0]) (am xp M2)=.agg #[.int .i64 yp.node,.int .i64 yp.index,.slice (some ⟨g,0,none⟩) yk.length gc]:=by rw [hyp];rfl
 have hfk:=va;obtain ⟨i,hi,hidx,hia⟩:=a20 hin;have hlies:sh W2 Slot.vals 2 (.slice (some ⟨g,0,none⟩) yk.length gc) yk:=bm Slot.vals_len (h2.own xp _ hyp);have hilt:(i:Int)<(yk.length:Int):=by omega
 have hiz:(0:Int)<=(i:Int):=by omega
 have hgw:g<w.heap.size:=h.fpLt (.inr ⟨xp,_,hy,rfl⟩);have hyl2:=h2.len xp _ hyp;dsimp only at hyl2;have hown2:=h2.own xp _ hyp;dsimp only at hown2;have ec:=hown2.cells (g:=g) rfl;go_wp2_with (at_lookup;go_must (refine ij _ rfl _ _ 61 false rfl em Tryz.underlying61 (ka _) (m:=M2) (enc:=bj.val) rfl h2.map xp rfl ?_);simp only [Bool.false_eq_true,if_false];rw [hyf])
 have hW2d:Fr W2 W2.drew (fun _=>False):=(Fr.refl _ _).drew;have hliesd:sh W2.drew Slot.vals 2 (.slice (some ⟨g,0,none⟩) yk.length gc) yk:=hlies;obtain ⟨A9,cap9,hv9,hc9⟩:=vd hlies;cases hv9
 obtain ⟨g9,hg9,hc9⟩:=hc9 hyl;cases hg9
 obtain ⟨y0,y1⟩:=hc9 i hi;have q1:g≠w.heap.size:=by omega
 have q2:g≠w.heap.size+1:=by omega
 go_region_held3 (fun w'=>w'.cell? ⟨w.heap.size,0,none⟩=some (.int .i64 a.node)/\w'.cell? ⟨w.heap.size,1,none⟩=some (.int .i64 a.index)/\w'.cell? ⟨w.heap.size+1,0,none⟩=some (.int .i64 b.node)/\w'.cell? ⟨w.heap.size+1,1,none⟩=some (.int .i64 b.index))
  (go_keep)
  ((go_at_call 99;refine (as3 yk _ a _ hliesd hyl2).mono ?_;rintro e W3 ⟨rfl,hf3⟩;rw [hidx];have g1:=hf3.cell (a:=⟨w.heap.size,0,none⟩) a0 id;have g2:=hf3.cell (a:=⟨w.heap.size,1,none⟩) a1 id;have g3:=hf3.cell (a:=⟨w.heap.size+1,0,none⟩) b0 id;have g4:=hf3.cell (a:=⟨w.heap.size+1,1,none⟩) b1 id;have g5:=hf3.cell (a:=⟨g,i*2,none⟩) y0 id;have g6:=hf3.cell (a:=⟨g,i*2+1,none⟩) y1 id;obtain ⟨z0,z1⟩:=bv_ (hf3.owns (w:=W2.drew) hown2 (fun _ _=>id)) i))
 have hF3:Fr w W3 (fun k=>k=tb):=(hF2.step hW2d (fun _=>False.elim)).step hf3 (fun _=>False.elim);have h3:bg W3 tb M2:=(h2.frame hW2d (fun _ _=>id)).frame hf3 (fun _ _=>id);have hbx3:=hf3.same (w:=W2.drew) hbx2 id;have hbb3:=hf3.same (w:=W2.drew) hbb2 id;have hown3:=h3.own xp _ hyp;dsimp only at hown3;have hf4:=be9 W3 g (i*2) (.int .i64 b.node) (.int .i64 b.index);generalize hW4:(W3.setCell ⟨g,i*2,none⟩ (.int .i64 b.node)).setCell ⟨g,i*2+1,none⟩ (.int .i64 b.index)=W4 at hf4;have hown4:W4.ownsRow 0 71 2 (.slice (some ⟨g,0,none⟩) yk.length gc) yk.length (bo (yk.set i b)):=by
  rw [<- hW4,<- bv2 yk i hi b];exact eh (eh hown3 _ _) _ _
 clear hW4 g1 g2 g3 g4 g5 g6 z0 z1 a0 a1 b0 b1 x0 x1 y0 y1 hyf hfk ec hown2 hown3 hlies hliesd hidx hilt hiz hc9;have hgt:g≠tb:=fun e=>h3.ne hyp (by rw [e];rfl)
 have h4:bg W4 tb (putM xp ⟨yp,yk.set i b,.slice (some ⟨g,0,none⟩) yk.length gc⟩ M2):=by
  refine bg.put (w:=W4) ((h3.map.frame hf4 (Ne.symm hgt)).alike hyp rfl) (Fr.refl _ _) ?_ h3.apart (by simpa using hown4) (by simpa using hyl2) ?_ (fun e=>h3.ne hyp e)
  ·intro s z hz hne;exact ⟨hf4.owns (h3.own s z hz) (fun k hk e=>h3.apart s z xp _ hz hyp hne k hk (by rw [e];rfl)),h3.len s z hz,h3.ne hz⟩
  ·intro s z hz hne k hk;exact h3.apart xp _ s z hyp hz (Ne.symm hne) k hk
 have hst4:cx (putM xp ⟨yp,yk.set i b,.slice (some ⟨g,0,none⟩) yk.length gc⟩ M2)=upd (upd (upd (cx M) a none) b (some ⟨xp,xk⟩)) xp (some ⟨yp,yk.map fun k=>if k=a then b else k⟩):=by
  rw [ru,hst2,y9 hnd i hi hia];rfl
 have hl4:∀s,am s (putM xp ⟨yp,yk.set i b,.slice (some ⟨g,0,none⟩) yk.length gc⟩ M2)=if xp=s then some ⟨yp,yk.set i b,.slice (some ⟨g,0,none⟩) yk.length gc⟩ else am s M2:=fun s=>g_ _ _ _ _
 generalize putM xp ⟨yp,yk.set i b,.slice (some ⟨g,0,none⟩) yk.length gc⟩ M2=M4 at h4 hst4 hl4;have hbl:am b M4=some ⟨xp,xk,.slice A xk.length cap⟩:=by rw [hl4,if_neg hpb,hl2,if_pos rfl]
 have hF4:Fr w W4 (br tb M):=(hF3.mono (fun k hk=>.inl hk)).step hf4 (fun k hk=>.inl (.inr ⟨xp,_,hy,by rw [hk];rfl⟩))
 have hbx4:=hf4.same hbx3 (by omega);have hbb4:=hf4.same hbb3 (by omega);have hex4:∀c∈xk,∃z,am c M4=some z:=by
  intro c hc;obtain ⟨⟨z,hz⟩,hca⟩:=hkids c hc;rw [hl4];split
  ·exact ⟨_,rfl⟩
  ·rw [hl2];split
   ·exact ⟨_,rfl⟩
   ·exact ⟨z,by rw [hd1 c hca];exact hz⟩
 have hfp4:∀k,br tb M4 k->br tb M k:=by
  rintro k (e | ⟨s,z,hz,e⟩)
  ·exact .inl e
  ·rw [hl4] at hz;split at hz
   ·cases hz;exact .inr ⟨xp,_,hy,e⟩
   ·rw [hl2] at hz;split at hz
    ·cases hz;exact .inr ⟨a,_,hx,e⟩
    ·exact .inr ⟨s,z,(hkey s z hz).2,e⟩
 have b0:=aa (o:=0) hbb4 rfl;have b1:=aa (o:=1) hbb4 rfl;have x2:=aa (o:=2) hbx4 rfl;go_wp2_with fail
 refine (tx M4 tb xk _ b W4 h4 (bm Slot.vals_len (h4.own b _ hbl)) (h4.len b _ hbl) (h4.ne hbl) hex4).mono ?_;rintro e W5 ⟨rfl,M5,h5,hst5,hsr5,hf5⟩;have hst:cx M5=rc (cx M) a b:=by
  rw [hst5,hst4];have e1:cx M a=some ⟨xp,xk⟩:=by simp [cx,hx,bj.std]
  have e2:upd (upd (cx M) a none) b (some ⟨xp,xk⟩) xp=some ⟨yp,yk⟩:=by rw [ae _ _ hpb,ae _ _ hpa];simp [cx,hy,bj.std]
  simp only [rc,e1,e2]
 have hF5:Fr w W5 (br tb M):=hF4.step hf5 (fun k hk=>.inl (.inl hk))
 clear b0 b1 x2 hst5 hst4 hst2;go_wp2;go_end0;exact ⟨rfl,M5,h5,hst,hF5,fun k hk=>hfp4 k (hsr5.fp hk)⟩
theorem vz (V:ah)(kb:Nat)(s:Slot)(w:World)(h:aq w kb V):
 Calls Tryz.prog 62 #[.map (some V.tb),.agg #[.int .i64 s.node,.int .i64 s.index]] w fun e w'=>e=.returned (.bool (c_ V.ker s))/\Fr w w' (fun _=>False):=by
 have hfk:=va;obtain ⟨p0,p1,A,n,cap,hz,hk,hn⟩:∃p0 p1 A n cap,iy bj.val (.agg #[.int .i64 0,.int .i64 0,.slice none 0 0]) (am s V.M)=.agg #[.int .i64 p0,.int .i64 p1,.slice A n cap]/\c_ V.ker s=decide (0<n)/\n<=1000000:=by
  cases hl:am s V.M with
  | none=>exact ⟨0,0,none,0,0,rfl,by simp [c_,ah.ker,cx,hl],by omega⟩
  | some x=>
   obtain ⟨A,cap,hsv⟩:=cz (h.tree.own s x hl);exact ⟨x.parent.node,x.parent.index,A,x.kids.length,cap,by simp [iy,bj.val,hsv],by simp [c_,ah.ker,cx,hl,bj.std],h.tree.len s x hl⟩
 rw [hk];clear hk;go_enter Tryz.func62,Tryz.ntmps62
 go_wp2_with (at_lookup;go_must (refine ij _ rfl _ _ 61 false rfl em Tryz.underlying61 (ka _) (m:=V.M) (enc:=bj.val) rfl (h.tree.map.frame ((Fr.refl _ (fun _=>False)).alloc _) id) s rfl ?_);simp only [Bool.false_eq_true,if_false];rw [hz])
 go_ret;exact ⟨rfl,(Fr.refl _ _).alloc _⟩
structure ev (w:World):Prop where
 n0:w.cell? ⟨0,0,none⟩=some (.int .i64 (-1))
 n1:w.cell? ⟨0,1,none⟩=some (.int .i64 (-1))
 bits:∀i:Nat,i<6->w.cell? ⟨1,i*2,none⟩=some (.int .i64 (o9 i))/\w.cell? ⟨1,i*2+1,none⟩=some (.int .i64 (sr i))
theorem at6 (ty bits:Int)(w:World)(hg:ev w):
 Calls Tryz.prog 60 #[.int .i64 ty,.int .i64 bits] w fun e w'=>e=.returned (.bool (jo ty bits))/\w'=w:=by
 by_cases h0:ty<0
 ·have d0:decide (ty<0)=true:=by simpa using h0
  have ha:jo ty bits=false:=by simp [jo];omega
  rw [ha];go_enter Tryz.func60,Tryz.ntmps60
  go_wp2;go_ret;exact ⟨rfl,rfl⟩
 ·have d0:decide (ty<0)=false:=by simpa using h0
  by_cases h1:6<=ty
  ·have ha:jo ty bits=false:=by simp [jo];omega
   rw [ha];go_enter Tryz.func60,Tryz.ntmps60
   go_wp2;go_ret;exact ⟨rfl,rfl⟩
  ·obtain ⟨n,rfl⟩:=Int.eq_ofNat_of_zero_le (show 0<=ty by omega);have hn:n<6:=by omega
   obtain ⟨b0,b1⟩:=hg.bits n hn;have ha:jo (n:Int) bits=(decide (o9 (n:Int)<=bits) && decide (bits<=sr (n:Int))):=by simp [jo];omega
   rw [ha];clear ha;generalize o9 (n:Int)=lo at b0;generalize sr (n:Int)=hi at b1;have hn2:(n:Int)<6:=by omega
   cases hlo:decide (lo<=bits) with
   | true=>
    go_enter Tryz.func60,Tryz.ntmps60
    go_wp2;go_ret;exact ⟨rfl,rfl⟩
   | false=>
    go_enter Tryz.func60,Tryz.ntmps60
    go_wp2;go_ret;exact ⟨rfl,rfl⟩
theorem bu8 (x b:Nat)(hb:b<=64)(hx:x<2 ^ 64):x &&& (2 ^ 64-2 ^ b)=x / 2 ^ b*2 ^ b:=by
 have hm:2 ^ 64-2 ^ b=(2 ^ (64-b)-1) <<< b:=by
  rw [Nat.shiftLeft_eq,Nat.sub_mul,<- Nat.pow_add,Nat.sub_add_cancel hb,Nat.one_mul]
 rw [hm,<- Nat.shiftRight_eq_div_pow,<- Nat.shiftLeft_eq];apply Nat.eq_of_testBit_eq;intro i;rw [Nat.testBit_and,Nat.testBit_shiftLeft,Nat.testBit_shiftLeft,Nat.testBit_shiftRight,Nat.testBit_two_pow_sub_one];by_cases h1:b<=i
 ·by_cases h2:i-b<64-b
  ·simp [h1,h2,show b+(i-b)=i by omega]
  ·have:x.testBit i=false:=Nat.testBit_lt_two_pow (Nat.lt_of_lt_of_le hx (Nat.pow_le_pow_right (by omega) (by omega)));simp [h1,this,show b+(i-b)=i by omega]
 ·simp [show ¬i >= b by omega]
theorem xa (x:Int)(h0:0<=x)(h1:x<4611686018427387904):IntKind.i64.wrap x=x:=by
 simp [IntKind.wrap,IntKind.bits,IntKind.signed];split<;>omega
theorem a39 (x b:Nat)(hb:b<=20)(hx:x<2 ^ 62):Go.bits .andNot .i64 (x:Int) ((2 ^ b-1:Nat):Int)=((x / 2 ^ b*2 ^ b:Nat):Int):=by
 have hp:2 ^ b<=2 ^ 20:=Nat.pow_le_pow_right (by omega) hb;have hp1:=Nat.two_pow_pos b;show IntKind.i64.wrap ((BitVec.ofInt 64 (x:Int) &&& ~~~BitVec.ofInt 64 ((2 ^ b-1:Nat):Int)).toNat:Int)=_;have e1:(BitVec.ofInt 64 (x:Int)).toNat=x:=by simp;omega
 have e2:(BitVec.ofInt 64 ((2 ^ b-1:Nat):Int)).toNat=2 ^ b-1:=by
  rw [BitVec.ofInt_natCast,BitVec.toNat_ofNat];exact Nat.mod_eq_of_lt (by omega)
 rw [BitVec.toNat_and,BitVec.toNat_not,e1,e2,show 2 ^ 64-1-(2 ^ b-1)=2 ^ 64-2 ^ b by omega,bu8 x b (by omega) (by omega)];have:=Nat.div_mul_le_self x (2 ^ b);generalize x / 2 ^ b*2 ^ b=z at this;exact xa _ (by omega) (by omega)
theorem bo8 (x b:Nat):((x+2 ^ b-1) / 2 ^ b*2 ^ b:Nat)=nu (x:Int) (pw b):=by
 have hp1:=Nat.two_pow_pos b;unfold nu pw;generalize 2 ^ b=z at hp1;have hm:((x:Int) % (z:Int))=((x % z:Nat):Int):=by simp
 rw [hm];have hd:=Nat.div_add_mod x z;have hlt:=Nat.mod_lt x hp1;by_cases h:x % z=0
 ·rw [if_pos (by omega)];have:(x+z-1) / z=x / z:=by
   rw [Nat.div_eq_iff hp1];have:z*(x / z)=x:=by omega
   rw [Nat.mul_comm] at this;constructor
   ·omega
   ·omega
  rw [this];have:x / z*z=x:=by rw [Nat.mul_comm];omega
  omega
 ·rw [if_neg (by omega)];have:(x+z-1) / z=x / z+1:=by
   rw [Nat.div_eq_iff hp1];have h2:z*(x / z)=x-x % z:=by omega
   rw [Nat.mul_comm] at h2;constructor
   ·rw [Nat.add_mul];omega
   ·rw [Nat.add_mul];omega
  rw [this,Nat.add_mul];have h2:z*(x / z)=x-x % z:=by omega
  rw [Nat.mul_comm] at h2;have:x % z<=x:=Nat.mod_le x z;omega
theorem a64 (x:Int)(b:Nat)(w:World)(h0:0<=x)(h1:x<=1000000)(hb:b<=20):
 Calls Tryz.prog 97 #[.int .i64 x,.int .i64 (pw b)] w fun e w'=>e=.returned (.int .i64 (nu x (pw b)))/\w'=w:=by
 obtain ⟨n,rfl⟩:=Int.eq_ofNat_of_zero_le h0;have hp:=lq b;have hq:=ag9 b hb;have hp2:=Nat.two_pow_pos b;have hm:Go.bits .andNot .i64 ((n:Int)+pw b-1) (pw b-1)=nu (n:Int) (pw b):=by
  rw [<- bo8 n b];have e1:(n:Int)+pw b-1=((n+2 ^ b-1:Nat):Int):=by unfold pw;omega
  have e2:pw b-1=((2 ^ b-1:Nat):Int):=by unfold pw;omega
  rw [e1,e2];exact a39 _ b hb (by unfold pw at hq;omega)
 have HM:Hid (Go.bits .andNot .i64 ((n:Int)+pw b-1) (pw b-1)=nu (n:Int) (pw b)):=hm;clear hm;generalize nu (n:Int) (pw b)=r at HM;generalize pw b=z at hp hq HM;go_enter Tryz.func97,Tryz.ntmps97
 go_wp2;go_ret;exact ⟨by rw [<- HM.out];rfl,rfl⟩
theorem aj7 (b n:Int)(w:World)(h0:0<=n)(h1:n<=20)(hb:0<=b)(hb1:b<=1000000):
 Calls Tryz.prog 98 #[.agg #[.int .i64 b,.int .i64 n]] w fun e w'=>e=.returned (.int .i64 (b+pw n.toNat))/\Fr w w' (fun _=>False):=by
 have hp:=lq n.toNat;have hq:=ag9 n.toNat (by omega);go_enter Tryz.func98,Tryz.ntmps98
 go_wp2_with fail
 generalize hW0:w.alloc _=W0;have hf0:Fr w W0 (fun _=>False):=by rw [<- hW0];exact (Fr.refl _ _).alloc _
 have hb0:W0.heap[w.heap.size]?=some (.cells #[.int .i64 b,.int .i64 n] 74 (0,0)):=by rw [<- hW0];exact heap_alloc_new _ _
 clear hW0;have s0:=aa (o:=0) hb0 rfl;have s1:=aa (o:=1) hb0 rfl;have hsz:=fun W=>wm b n W h0 h1
 go_region_held3 (fun w'=>w'.cell? ⟨w.heap.size,0,none⟩=some (.int .i64 b)/\w'.cell? ⟨w.heap.size,1,none⟩=some (.int .i64 n)) (go_keep)
  ((go_at_call 56;refine (hsz _).mono ?_;rintro e W2 ⟨rfl,hf2⟩;obtain ⟨g0,g1⟩:=ah3 hf2 hb0 (by simp)))
 have hF2:Fr w W2 (fun _=>False):=hf0.drew.step hf2 (fun _=>False.elim);clear g0 g1 s0 s1 hsz;have hwr:IntKind.i64.wrap (b+pw n.toNat)=b+pw n.toNat:=xa _ (by omega) (by omega);have HW:Hid (IntKind.i64.wrap (b+pw n.toNat)=b+pw n.toNat):=hwr;clear hwr;go_wp2;go_ret;exact ⟨by first | rfl | (rw [HW.out];rfl),hF2⟩
def bd0:Option oz->Ending
 | some t=>.returned (.tuple #[.agg #[.int .i64 t.state,.int .i64 t.root,.int .i64 t.value,.int .i64 t.badge,.int .i64 t.err],.int .i64 0])
 | none=>.returned (.tuple #[.agg #[.int .i64 0,.int .i64 0,.int .i64 0,.int .i64 0,.int .i64 0],.int .i64 1])
theorem uf {w:World}{kb:Nat}{V:ah}(h:aq w kb V)(b:Int):(Instr.lookup 63 (.map (some V.rb)) (.int .i64 b) true).run Tryz.prog w =
 .ok (.tuple #[match V.ker.thr b with
  | some t=>.agg #[.int .i64 t.state,.int .i64 t.root,.int .i64 t.value,.int .i64 t.badge,.int .i64 t.err]
  | none=>.agg #[.int .i64 0,.int .i64 0,.int .i64 0,.int .i64 0,.int .i64 0],.bool (V.ker.thr b).isSome]) w:=by
 have:=h.thr.look_run ku Tryz.underlying63 (z:=.agg #[.int .i64 0,.int .i64 0,.int .i64 0,.int .i64 0,.int .i64 0]) (by kernel_rfl) b true;simp only [ke] at this;rw [this];simp only [ah.ker];cases am b V.T<;>rfl
theorem ag3 (V:ah)(kb:Nat)(b:Int)(w:World)(h:aq w kb V):
 Calls Tryz.prog 50 #[.pointer (some ⟨kb,0,none⟩),.int .i64 b] w fun e w'=>e=bd0 (V.ker.thr b)/\Fr w w' (fun _=>False):=by
 have hf0:=(Fr.refl w (fun _=>False)).alloc (.cells #[.int .i64 0,.int .i64 0,.int .i64 0,.int .i64 0,.int .i64 0] 82);have hrun:=uf (h.frame hf0 (fun _ _=>id)) b;have cr:=h.cr;have hlt:=World.block_lt_of_cell? _ _ cr;cases ht:V.ker.thr b with
 | none=>
  rw [ht] at hrun;dsimp only [Option.isSome] at hrun;go_enter Tryz.func50,Tryz.ntmps50
  go_wp2;refine bodyPost_ret (v:=.tuple #[.agg #[.int .i64 0,.int .i64 0,.int .i64 0,.int .i64 0,.int .i64 0],.int .i64 1]) (by simp [results,Tryz.results50,go_sem]) rfl ⟨rfl,?_⟩;exact ((Fr.refl _ _).alloc _).alloc _
 | some t=>
  rw [ht] at hrun;dsimp only [Option.isSome] at hrun;go_enter Tryz.func50,Tryz.ntmps50
  go_wp2;refine bodyPost_ret (v:=.tuple #[.agg #[.int .i64 t.state,.int .i64 t.root,.int .i64 t.value,.int .i64 t.badge,.int .i64 t.err],.int .i64 0]) (by simp [results,Tryz.results50,go_sem]) rfl ⟨rfl,?_⟩;exact ((Fr.refl _ _).alloc _).alloc _
def mn (ws:Nat->Int)(n:Int):Ending:=if 0<=n/\n<1024 then .returned (.tuple #[.int .i64 (ws n.toNat),.int .i64 0]) else .returned (.tuple #[.int .i64 0,.int .i64 7])
theorem xj (V:ah)(kb:Nat)(n:Int)(w:World)(h:aq w kb V)(hw:∀i,i<1024->0<=V.ws i/\V.ws i<=4294967295):
 Calls Tryz.prog 12 #[.pointer (some ⟨kb,0,none⟩),.int .i64 n] w fun e w'=>e=mn V.ws n/\w'=w:=by
 by_cases h0:n<0
 ·have d0:decide (n<0)=true:=by simpa using h0
  have ha:mn V.ws n=.returned (.tuple #[.int .i64 0,.int .i64 7]):=if_neg (by omega);rw [ha];go_enter Tryz.func12,Tryz.ntmps12
  go_wp2;go_ret2;exact ⟨rfl,rfl⟩
 ·have d0:decide (n<0)=false:=by simpa using h0
  by_cases h1:1024<=n
  ·have ha:mn V.ws n=.returned (.tuple #[.int .i64 0,.int .i64 7]):=if_neg (by omega);rw [ha];go_enter Tryz.func12,Tryz.ntmps12
   go_wp2;go_ret2;exact ⟨rfl,rfl⟩
  ·obtain ⟨k,rfl⟩:=Int.eq_ofNat_of_zero_le (show 0<=n by omega);have hk:k<1024:=by omega
   have hk2:(k:Int)<1024:=by omega
   have cw:=h.cw hk;obtain ⟨w0,w1⟩:=hw k hk;have ha:mn V.ws (k:Int)=.returned (.tuple #[.int .i64 (V.ws k),.int .i64 0]):=by unfold mn;rw [if_pos (by omega),Int.toNat_natCast]
   rw [ha];clear ha;generalize V.ws k=x at cw w0 w1;go_enter Tryz.func12,Tryz.ntmps12
   go_wp2;go_ret2;exact ⟨rfl,rfl⟩
attribute [local go_sem] ir v_ ly qe jm bp wa o7 ip o6 uj j_ gh mh kp
def ao5 (t:Int×Int×Int×Int×Int×Int):Value:=.agg #[.int .i64 t.1,.int .i64 t.2.1,.int .i64 t.2.2.1,.int .i64 t.2.2.2.1,.int .i64 t.2.2.2.2.1,.int .i64 t.2.2.2.2.2]
theorem a34 (a b c:Value)(w:World):(method 320 76 (.agg #[a,b,c]) "escheat/escheat.memory").run Tryz.prog w=.ok (140,.agg #[a,b]) w:=by kernel_rfl
theorem bw6 (a b c:Value)(w:World):(method 320 119 (.agg #[a,b,c]) "escheat/escheat.memory").run Tryz.prog w=.ok (140,.agg #[a,b]) w:=by kernel_rfl
theorem au1 (a b c d:Value)(w:World):(method 320 122 (.agg #[a,b,c,d]) "escheat/escheat.memory").run Tryz.prog w=.ok (140,.agg #[a,b]) w:=by kernel_rfl
theorem br0 (a b c:Value)(w:World):(method 320 127 (.agg #[a,b,c]) "escheat/escheat.memory").run Tryz.prog w=.ok (140,.agg #[a,b]) w:=by kernel_rfl
theorem bk1 (a b c:Value)(w:World):(method 320 128 (.agg #[a,b,c]) "escheat/escheat.memory").run Tryz.prog w=.ok (140,.agg #[a,b]) w:=by kernel_rfl
attribute [local go_sem] a34 bw6 au1 br0 bk1
theorem rg (b n:Int)(w:World):
 Calls Tryz.prog 140 #[.agg #[.int .i64 b,.int .i64 n]] w fun e w'=>e=.returned (.agg #[.int .i64 b,.int .i64 n])/\Fr w w' (fun _=>False):=by
 go_enter Tryz.func140,Tryz.ntmps140
 go_wp2;refine bodyPost_ret (v:=.agg #[.int .i64 b,.int .i64 n]) (by simp [results,Tryz.results140,go_sem]) rfl ⟨rfl,?_⟩;exact ((Fr.refl _ _).alloc _).alloc _
theorem ua (W:World):W.drew.heap=W.heap:=rfl
theorem zn {W:World}{B:Nat}{t:TypeId}{a0 a1 a2 a3 a4 a5:Value}(v0 v1 v2 v3 v4 v5:Value)(h:W.heap[B]?=some (.cells #[a0,a1,a2,a3,a4,a5] t (0,0))):
 ((((((W.setCell ⟨B,0,none⟩ v0).setCell ⟨B,1,none⟩ v1).setCell ⟨B,2,none⟩ v2).setCell ⟨B,3,none⟩ v3).setCell ⟨B,4,none⟩ v4).setCell ⟨B,5,none⟩ v5).heap[B]?=some (.cells #[v0,v1,v2,v3,v4,v5] t (0,0)):=by
 have h1:=ak _ B 0 v0 h;have h2:=ak _ B 1 v1 h1;have h3:=ak _ B 2 v2 h2;have h4:=ak _ B 3 v3 h3;have h5:=ak _ B 4 v4 h4;have h6:=ak _ B 5 v5 h5;exact h6
theorem om {X:World}{B:Nat}{tmps:Array Value}{v0 v1 v2 v3 v4 v5:Value}(h:X.heap[B]?=some (.cells #[v0,v1,v2,v3,v4,v5] 46 (0,0)))(ht:tmps[2]?=some (.pointer (some ⟨B,0,none⟩))):
 (results Tryz.f24 tmps).run Tryz.prog X=.ok (.agg #[v0,v1,v2,v3,v4,v5]) X:=by
 obtain ⟨k0,k1,k2,k3,k4,k5⟩:=aa_ h;simp [results,Tryz.results24,go_sem,ht,k0,k1,k2,k3,k4,k5]
theorem aa7 {w W1 W2:World}{o a b c:Obj}(hf1:Fr (w.alloc o) W1 (fun _=>False))(hW2:((W1.alloc a).alloc b).alloc c=W2):
 Fr w W2 (fun _=>False)/\W2.heap[w.heap.size]?=some o/\W2.heap[W1.heap.size+1]?=some b/\W2.heap[W1.heap.size+1+1]?=some c/\w.heap.size≠W1.heap.size+1/\W1.heap.size+1≠W1.heap.size+1+1/\w.heap.size≠W1.heap.size+1+1/\w.heap.size<=W1.heap.size+1:=by
 obtain ⟨hf2,hs2,hb3,hb4,hb5⟩:=un hW2;have hl1:=hf1.size;simp only [World.size_alloc] at hl1;exact ⟨(((Fr.refl _ _).alloc _).step hf1 (fun _=>False.elim)).step hf2 (fun _=>False.elim),hf2.same (hf1.same (heap_alloc_new _ _) id) id,hb4,hb5,by omega,by omega,by omega,by omega⟩
theorem ax_ (b n m:Int)(w:World):
 Calls Tryz.prog 24 #[(KCap.untyped b n m).val] w fun e w'=>e=.returned (.agg #[.int .i64 1,.int .i64 b,.int .i64 n,.int .i64 7,.int .i64 0,.int .i64 m])/\Fr w w' (fun _=>False):=by
 go_enter Tryz.func24,Tryz.ntmps24
 simp only [KCap.val];go_wp2_with (go_at_call 140;refine (rg b n _).mono ?_;rintro e W1 ⟨rfl,hf1⟩)
 generalize hW2:World.alloc _ _=W2;obtain ⟨hF2,hb2,hb4,hb5,d1,d2,d3,g1⟩:=aa7 hf1 hW2;clear hW2 hf1;generalize W1.heap.size+1+1=B5 at *
 generalize W1.heap.size+1=B4 at *
 have c5m:W2.cell? ⟨B5,2,none⟩=some (.int .i64 m):=aa hb5 rfl;obtain ⟨k0,k1,k2,k3,k4,k5⟩:=aa_ hb4;have z4:∀o,W2.frozen? ⟨B4,o,none⟩=false:=fun o=>ab hb4
 go_region_held3 (fun w'=>w'.cell? ⟨B5,2,none⟩=some (.int .i64 m)) (first | go_keep | (simp [go_sem,d2,Ne.symm d2,c5m];done)) (fail)
 obtain ⟨q0,q1,q2,q3,q4,q5⟩:=aa_ hb2;have z2:∀o,W2.frozen? ⟨w.heap.size,o,none⟩=false:=fun o=>ab hb2
 go_wp2;refine bodyPost_ret (v:=.agg #[.int .i64 1,.int .i64 b,.int .i64 n,.int .i64 7,.int .i64 0,.int .i64 m]) (om (B:=w.heap.size) ?_ rfl) rfl ⟨rfl,?_⟩
 ·rw [ua];refine zn (W:=_) _ _ _ _ _ _ (t:=46) (a0:=.int .i64 0) (a1:=.int .i64 0) (a2:=.int .i64 0) (a3:=.int .i64 0) (a4:=.int .i64 0) (a5:=.int .i64 0) ?_;repeat rw [ft _ _ _ _ _ d1]
  exact hb2
 ·refine Fr.drew ?_;repeat refine Fr.setCell ?_ (.inr (by first | exact Nat.le_refl _ | exact g1)) _ _
  exact hF2
theorem bk2 (b n m:Int)(w:World):
 Calls Tryz.prog 24 #[(KCap.node b n m).val] w fun e w'=>e=.returned (.agg #[.int .i64 2,.int .i64 b,.int .i64 n,.int .i64 m,.int .i64 0,.int .i64 0])/\Fr w w' (fun _=>False):=by
 go_enter Tryz.func24,Tryz.ntmps24
 simp only [KCap.val];go_wp2_with (go_at_call 140;refine (rg b n _).mono ?_;rintro e W1 ⟨rfl,hf1⟩)
 generalize hW2:World.alloc _ _=W2;obtain ⟨hF2,hb2,hb4,hb5,d1,d2,d3,g1⟩:=aa7 hf1 hW2;clear hW2 hf1;generalize W1.heap.size+1+1=B5 at *
 generalize W1.heap.size+1=B4 at *
 have c5m:W2.cell? ⟨B5,2,none⟩=some (.int .i64 m):=aa hb5 rfl;obtain ⟨k0,k1,k2,k3,k4,k5⟩:=aa_ hb4;have z4:∀o,W2.frozen? ⟨B4,o,none⟩=false:=fun o=>ab hb4
 go_region_held3 (fun w'=>w'.cell? ⟨B5,2,none⟩=some (.int .i64 m)) (first | go_keep | (simp [go_sem,d2,Ne.symm d2,c5m];done)) (fail)
 obtain ⟨q0,q1,q2,q3,q4,q5⟩:=aa_ hb2;have z2:∀o,W2.frozen? ⟨w.heap.size,o,none⟩=false:=fun o=>ab hb2
 go_wp2;refine bodyPost_ret (v:=.agg #[.int .i64 2,.int .i64 b,.int .i64 n,.int .i64 m,.int .i64 0,.int .i64 0]) (om (B:=w.heap.size) ?_ rfl) rfl ⟨rfl,?_⟩
 ·rw [ua];refine zn (W:=_) _ _ _ _ _ _ (t:=46) (a0:=.int .i64 0) (a1:=.int .i64 0) (a2:=.int .i64 0) (a3:=.int .i64 0) (a4:=.int .i64 0) (a5:=.int .i64 0) ?_;repeat rw [ft _ _ _ _ _ d1]
  exact hb2
 ·refine Fr.drew ?_;repeat refine Fr.setCell ?_ (.inr (by first | exact Nat.le_refl _ | exact g1)) _ _
  exact hF2
theorem aq1 (b n m g:Int)(w:World):
 Calls Tryz.prog 24 #[(KCap.endpoint b n m g).val] w fun e w'=>e=.returned (.agg #[.int .i64 3,.int .i64 b,.int .i64 n,.int .i64 m,.int .i64 g,.int .i64 0])/\Fr w w' (fun _=>False):=by
 go_enter Tryz.func24,Tryz.ntmps24
 simp only [KCap.val];go_wp2_with (go_at_call 140;refine (rg b n _).mono ?_;rintro e W1 ⟨rfl,hf1⟩)
 generalize hW2:World.alloc _ _=W2;obtain ⟨hF2,hb2,hb4,hb5,d1,d2,d3,g1⟩:=aa7 hf1 hW2;clear hW2 hf1;generalize W1.heap.size+1+1=B5 at *
 generalize W1.heap.size+1=B4 at *
 have c5m:W2.cell? ⟨B5,2,none⟩=some (.int .i64 m):=aa hb5 rfl;have c5g:W2.cell? ⟨B5,3,none⟩=some (.int .i64 g):=aa hb5 rfl;obtain ⟨k0,k1,k2,k3,k4,k5⟩:=aa_ hb4;have z4:∀o,W2.frozen? ⟨B4,o,none⟩=false:=fun o=>ab hb4
 go_region_held3 (fun w'=>w'.cell? ⟨B5,2,none⟩=some (.int .i64 m)/\w'.cell? ⟨B5,3,none⟩=some (.int .i64 g)) (first | go_keep | (simp [go_sem,d2,Ne.symm d2,c5m,c5g];done)) (fail)
 obtain ⟨q0,q1,q2,q3,q4,q5⟩:=aa_ hb2;have z2:∀o,W2.frozen? ⟨w.heap.size,o,none⟩=false:=fun o=>ab hb2
 go_wp2;refine bodyPost_ret (v:=.agg #[.int .i64 3,.int .i64 b,.int .i64 n,.int .i64 m,.int .i64 g,.int .i64 0]) (om (B:=w.heap.size) ?_ rfl) rfl ⟨rfl,?_⟩
 ·rw [ua];refine zn (W:=_) _ _ _ _ _ _ (t:=46) (a0:=.int .i64 0) (a1:=.int .i64 0) (a2:=.int .i64 0) (a3:=.int .i64 0) (a4:=.int .i64 0) (a5:=.int .i64 0) ?_;repeat rw [ft _ _ _ _ _ d1]
  exact hb2
 ·refine Fr.drew ?_;repeat refine Fr.setCell ?_ (.inr (by first | exact Nat.le_refl _ | exact g1)) _ _
  exact hF2
theorem bi9 (b n m:Int)(w:World):
 Calls Tryz.prog 24 #[(KCap.task b n m).val] w fun e w'=>e=.returned (.agg #[.int .i64 4,.int .i64 b,.int .i64 n,.int .i64 m,.int .i64 0,.int .i64 0])/\Fr w w' (fun _=>False):=by
 go_enter Tryz.func24,Tryz.ntmps24
 simp only [KCap.val];go_wp2_with (go_at_call 140;refine (rg b n _).mono ?_;rintro e W1 ⟨rfl,hf1⟩)
 generalize hW2:World.alloc _ _=W2;obtain ⟨hF2,hb2,hb4,hb5,d1,d2,d3,g1⟩:=aa7 hf1 hW2;clear hW2 hf1;generalize W1.heap.size+1+1=B5 at *
 generalize W1.heap.size+1=B4 at *
 have c5m:W2.cell? ⟨B5,2,none⟩=some (.int .i64 m):=aa hb5 rfl;obtain ⟨k0,k1,k2,k3,k4,k5⟩:=aa_ hb4;have z4:∀o,W2.frozen? ⟨B4,o,none⟩=false:=fun o=>ab hb4
 go_region_held3 (fun w'=>w'.cell? ⟨B5,2,none⟩=some (.int .i64 m)) (first | go_keep | (simp [go_sem,d2,Ne.symm d2,c5m];done)) (fail)
 obtain ⟨q0,q1,q2,q3,q4,q5⟩:=aa_ hb2;have z2:∀o,W2.frozen? ⟨w.heap.size,o,none⟩=false:=fun o=>ab hb2
 go_wp2;refine bodyPost_ret (v:=.agg #[.int .i64 4,.int .i64 b,.int .i64 n,.int .i64 m,.int .i64 0,.int .i64 0]) (om (B:=w.heap.size) ?_ rfl) rfl ⟨rfl,?_⟩
 ·rw [ua];refine zn (W:=_) _ _ _ _ _ _ (t:=46) (a0:=.int .i64 0) (a1:=.int .i64 0) (a2:=.int .i64 0) (a3:=.int .i64 0) (a4:=.int .i64 0) (a5:=.int .i64 0) ?_;repeat rw [ft _ _ _ _ _ d1]
  exact hb2
 ·refine Fr.drew ?_;repeat refine Fr.setCell ?_ (.inr (by first | exact Nat.le_refl _ | exact g1)) _ _
  exact hF2
theorem be1 (b n m:Int)(w:World):
 Calls Tryz.prog 24 #[(KCap.frame b n m).val] w fun e w'=>e=.returned (.agg #[.int .i64 5,.int .i64 b,.int .i64 n,.int .i64 m,.int .i64 0,.int .i64 0])/\Fr w w' (fun _=>False):=by
 go_enter Tryz.func24,Tryz.ntmps24
 simp only [KCap.val];go_wp2_with (go_at_call 140;refine (rg b n _).mono ?_;rintro e W1 ⟨rfl,hf1⟩)
 generalize hW2:World.alloc _ _=W2;obtain ⟨hF2,hb2,hb4,hb5,d1,d2,d3,g1⟩:=aa7 hf1 hW2;clear hW2 hf1;generalize W1.heap.size+1+1=B5 at *
 generalize W1.heap.size+1=B4 at *
 have c5m:W2.cell? ⟨B5,2,none⟩=some (.int .i64 m):=aa hb5 rfl;obtain ⟨k0,k1,k2,k3,k4,k5⟩:=aa_ hb4;have z4:∀o,W2.frozen? ⟨B4,o,none⟩=false:=fun o=>ab hb4
 go_region_held3 (fun w'=>w'.cell? ⟨B5,2,none⟩=some (.int .i64 m)) (first | go_keep | (simp [go_sem,d2,Ne.symm d2,c5m];done)) (fail)
 obtain ⟨q0,q1,q2,q3,q4,q5⟩:=aa_ hb2;have z2:∀o,W2.frozen? ⟨w.heap.size,o,none⟩=false:=fun o=>ab hb2
 go_wp2;refine bodyPost_ret (v:=.agg #[.int .i64 5,.int .i64 b,.int .i64 n,.int .i64 m,.int .i64 0,.int .i64 0]) (om (B:=w.heap.size) ?_ rfl) rfl ⟨rfl,?_⟩
 ·rw [ua];refine zn (W:=_) _ _ _ _ _ _ (t:=46) (a0:=.int .i64 0) (a1:=.int .i64 0) (a2:=.int .i64 0) (a3:=.int .i64 0) (a4:=.int .i64 0) (a5:=.int .i64 0) ?_;repeat rw [ft _ _ _ _ _ d1]
  exact hb2
 ·refine Fr.drew ?_;repeat refine Fr.setCell ?_ (.inr (by first | exact Nat.le_refl _ | exact g1)) _ _
  exact hF2
theorem ab0 (c:KCap)(w:World):
 Calls Tryz.prog 24 #[c.val] w fun e w'=>e=.returned (ao5 c.told)/\Fr w w' (fun _=>False):=by
 cases c with
 | untyped b n m=>exact ax_ b n m w
 | node b n m=>exact bk2 b n m w
 | endpoint b n m g=>exact aq1 b n m g w
 | task b n m=>exact bi9 b n m w
 | frame b n m=>exact be1 b n m w
theorem bl1 (w:World):(binOp .eql 67 (.slice none 0 0) (.slice none 0 0)).run Tryz.prog w=.ok (.bool true) w:=by kernel_rfl
attribute [local go_sem] bl1
theorem bc8 (V:ah)(kb:Nat)(w:World)(h:aq w kb V)(hd:V.dv=.slice none 0 0):
 Calls Tryz.prog 54 #[.pointer (some ⟨kb,0,none⟩)] w fun e w'=>e=.returned (.slice none 0 0)/\Fr w w' (fun _=>False):=by
 obtain ⟨c,hc,hcc⟩:=h.blk;have c1:w.cell? ⟨kb,1027,none⟩=some (.slice none 0 0):=by rw [<- hd];exact aa hc hcc.d
 go_enter Tryz.func54,Tryz.ntmps54
 go_wp2;go_ret;exact ⟨rfl,Fr.refl _ _⟩
theorem ap8 (M:List (Slot×bj))(tb:Nat)(a s:Slot)(x:bj)(w:World)(h:bg w tb M)(hx:am a M=some x)(hs:x.kids.getLast?=some s):
 Calls Tryz.prog 72 #[.map (some tb),.agg #[.int .i64 a.node,.int .i64 a.index]] w fun e w'=>e=.returned (.agg #[.int .i64 s.node,.int .i64 s.index])/\Fr w w' (fun _=>False):=by
 have hlt:=h.map.lt;have hpos:0<x.kids.length:=by
  cases hk:x.kids with
  | nil=>rw [hk] at hs;cases hs
  | cons y l=>simp
 obtain ⟨g,gc,hsv,hgc,hgm,hglt⟩:=ep (h.own a x hx) hpos;obtain ⟨xp,xk,xs⟩:=x;dsimp only at hsv hs hpos hgc;subst hsv;have hxf:iy bj.val (.agg #[.int .i64 0,.int .i64 0,.slice none 0 0]) (am a M)=.agg #[.int .i64 xp.node,.int .i64 xp.index,.slice (some ⟨g,0,none⟩) xk.length gc]:=by rw [hx];rfl
 have hfk:=va;have hll:=h.len a _ hx;dsimp only at hll;obtain ⟨A9,cap9,hv9,hc9⟩:=vd (bm Slot.vals_len (h.own a _ hx));cases hv9
 obtain ⟨g9,hg9,hc9⟩:=hc9 hpos;cases hg9
 have hi:xk.length-1<xk.length:=by omega
 have hsi:xk[xk.length-1]=s:=by
  rw [List.getLast?_eq_getElem?] at hs;exact (List.getElem?_eq_some_iff.1 hs).2
 obtain ⟨y0,y1⟩:=hc9 (xk.length-1) hi;rw [hsi] at y0 y1;have hw1:IntKind.i64.wrap ((xk.length:Int)-1)=((xk.length-1:Nat):Int):=by rw [IntKind.wrap_i64];omega
 have hz1:(0:Int)<=((xk.length-1:Nat):Int):=by omega
 have hz2:((xk.length-1:Nat):Int)<(xk.length:Int):=by omega
 have q1:¬(g=w.heap.size):=by omega
 have q2:¬(g=w.heap.size+1):=by omega
 go_enter Tryz.func72,Tryz.ntmps72
 go_wp2_with (at_lookup;go_must (refine ij _ rfl _ _ 61 false rfl em Tryz.underlying61 (ka _) (m:=M) (enc:=bj.val) rfl (h.map.frame (((Fr.refl _ (fun _=>False)).alloc _).alloc _) id) a rfl ?_);simp only [Bool.false_eq_true,if_false];rw [hxf])
 refine bodyPost_ret (v:=.agg #[.int .i64 s.node,.int .i64 s.index]) (by simp [results,Tryz.results72,go_sem]) rfl ⟨rfl,((Fr.refl _ _).alloc _).alloc _⟩
end Go.Proofs.YtdpjgflemddekaaGreatDoor

/- The document's answer: what Send, Receive and Root do to the kernel's lists. -/
import Derived.Test.YtdpjgflemddekaaGreatDoorMTRa
import Derived.Test.YtdpjgflemddekaaGreatDoorMTalkP
import Derived.Deep.RegionLaw
import Derived.Deep.DeepCutAuto
set_option maxRecDepth 100000
set_option maxHeartbeats 4000000
namespace Go.Proofs.YtdpjgflemddekaaGreatDoor
open Go.RowKit
theorem RD.pushQ {w W:World}{kb:Nat}{S:RS}{V:ax}{g cap:Nat}{x:Wt}(h:RD w kb S V)(hf:Fr w W (fun r=>V.qv.ownBlock=some r))
 (hown:W.ownsRow 0 191 5 (.slice (some ⟨g,0,none⟩) (S.q.length+1) cap) (S.q.length+1) (S.q.flatMap sj++sj x)) (hat:V.qv.ownBlock=some g\/w.heap.size<=g) :
 fh w kb V {S with q:=S.q++[x]} {V with qv:=.slice (some ⟨g,0,none⟩) (S.q.length+1) cap} (W.setCell ⟨kb,1027,none⟩ (.slice (some ⟨g,0,none⟩) (S.q.length+1) cap)):=by
 have hkl:kb<w.heap.size:=h.ref.fpLt (.inl rfl);have hgk:g≠kb:=by
  rintro rfl;rcases hat with e | e
  ·exact (h.qk g e).1 (.inl rfl)
  ·omega
 have hown':(W.setCell ⟨kb,1027,none⟩ (.slice (some ⟨g,0,none⟩) (S.q.length+1) cap)).ownsRow 0 191 5 (.slice (some ⟨g,0,none⟩) (S.q.length+1) cap) (S.q++[x]).length ((S.q++[x]).flatMap sj):=by
  rw [List.length_append,List.flatMap_append];simpa using (Fr.s1 W kb 1027 (.slice (some ⟨g,0,none⟩) (S.q.length+1) cap)).owns hown (fun k hk e=>hgk (by cases hk;exact e))
 refine ⟨⟨(h.ref.frame hf (fun k hk e=>(h.qk k e).1 hk)).setQ _,h.ws,(Fr.s1 _ _ _ _).owns (hf.owns h.d (fun k hk e=>(h.qk k e).2 hk)) (fun k hk e=>h.dk k hk (.inl e)),h.dk,hown',?_⟩,(hf.mono (fun k hk=>.inr (.inr hk))).setCell (.inl (.inl (.inl rfl))) _ _,?_⟩
 ·intro k hk;cases hk
  rcases hat with e | e
  ·exact h.qk g e
  ·exact ⟨fun e1=>by have:=h.ref.fpLt e1;show False;have:g<w.heap.size:=this;omega,fun e1=>by have:=h.fqLt (k:=g) (.inr (.inl e1));omega⟩
 ·rintro k (hk | hk | hk)
  ·exact .inl (.inl hk)
  ·exact .inl (.inr (.inl hk))
  ·cases hk
   exact hat.imp (fun e=>.inr (.inr e)) id
theorem RD.setField {w:World}{kb:Nat}{S:RS}{V:ax}(h:RD w kb S V){g cap p:Nat}(hp:p<S.R.T.length)(hlv:V.tv=.slice (some ⟨g,0,none⟩) S.R.T.length cap)(j:Nat)(hj:j<6)(v:Value)(t:ej)(hv:t.vals=S.R.T[p].vals.set j v):
 fh w kb V {S with R:={S.R with T:=S.R.T.set p t}} V (w.setCell ⟨g,p*6+j,none⟩ v):=by
 have hgf:V.fp kb g:=.inr (.inr (.inr (by rw [hlv];rfl)));exact ⟨⟨h.ref.setField hp hlv j hj v t hv,h.ws,(Fr.s1 _ _ _ _).owns h.d (fun k hk e1=>h.dk k hk (by rw [e1];exact hgf)),h.dk,(Fr.s1 _ _ _ _).owns h.q (fun k hk e1=>(h.qk k hk).1 (by rw [e1];exact hgf)),h.qk⟩,
  (Fr.s1 _ _ _ _).mono (fun k (e1:k=g)=>(by rw [e1];exact .inl hgf:V.fq kb k)),fun k hk=>.inl hk⟩
theorem RD.setWord {w:World}{kb:Nat}{S:RS}{V:ax}(h:RD w kb S V){i:Nat}(hi:i<1024)(v:Int):
 fh w kb V {S with ws:=qu S.ws i v} {V with ws:=qu S.ws i v} (w.setCell ⟨kb,1+i,none⟩ (.int .i64 v)):=by
 have h1:=h.ref.setWord hi v;rw [show i+1=1+i by omega,h.ws] at h1;exact ⟨⟨h1,rfl,(Fr.s1 _ _ _ _).owns h.d (fun k hk e=>h.dk k hk (.inl e)),h.dk,(Fr.s1 _ _ _ _).owns h.q (fun k hk e=>(h.qk k hk).1 (.inl e)),h.qk⟩,(Fr.s1 _ _ _ _).mono (fun k hk=>.inl (.inl hk)),fun k hk=>.inl hk⟩
theorem aa3 {w:World}{kb:Nat}{R:dq}{V:ax}(h:aj w kb R V){g n cap:Nat}(htv:V.tv=.slice (some ⟨g,0,none⟩) n cap)(o:Nat):w.frozen? ⟨g,o,none⟩=false:=by
 rcases h.t.2 with ⟨e0,_⟩ | ⟨g',cap',cur,e0,_,hg,_⟩
 ·rw [e0] at htv;cases htv
 ·rw [e0] at htv;cases htv;exact ab hg
theorem RD.park {w:World}{kb:Nat}{S:RS}{V:ax}(h:RD w kb S V){g cap p:Nat}(hp:p<S.R.T.length)(hlv:V.tv=.slice (some ⟨g,0,none⟩) S.R.T.length cap)(o:Obj)(s:Int):
 RD ((w.setCell ⟨g,p*6+1,none⟩ (.int .i64 s)).alloc o) kb {S with R:={S.R with T:=S.R.T.set p (stT s S.R.T[p])}} V/\Fr w ((w.setCell ⟨g,p*6+1,none⟩ (.int .i64 s)).alloc o) (V.fp kb)/\((w.setCell ⟨g,p*6+1,none⟩ (.int .i64 s)).alloc o).heap[w.heap.size]?=some o:=by
 have hgf:V.fp kb g:=.inr (.inr (.inr (by rw [hlv];rfl)));have hb:=heap_alloc_new (w.setCell ⟨g,p*6+1,none⟩ (.int .i64 s)) o;rw [bu] at hb;exact ⟨(h.setField hp hlv 1 (by omega) (.int .i64 s) (stT s S.R.T[p]) rfl).rd.frame ((Fr.refl _ (fun _=>False)).alloc o) (fun _ _=>id),(((Fr.refl w (V.fp kb)).setCell (.inl hgf) _ _).alloc o),hb⟩
theorem RD.park2 {w:World}{kb:Nat}{S:RS}{V:ax}(h:RD w kb S V){g cap p:Nat}(hp:p<S.R.T.length)(hlv:V.tv=.slice (some ⟨g,0,none⟩) S.R.T.length cap)(o:Obj)(s s':Int):
 RD (((w.setCell ⟨g,p*6+1,none⟩ (.int .i64 s)).setCell ⟨g,p*6+1,none⟩ (.int .i64 s')).alloc o) kb {S with R:={S.R with T:=S.R.T.set p (stT s' S.R.T[p])}} V/\Fr w (((w.setCell ⟨g,p*6+1,none⟩ (.int .i64 s)).setCell ⟨g,p*6+1,none⟩ (.int .i64 s')).alloc o) (V.fp kb)/\
  (((w.setCell ⟨g,p*6+1,none⟩ (.int .i64 s)).setCell ⟨g,p*6+1,none⟩ (.int .i64 s')).alloc o).heap[w.heap.size]?=some o:=by
 have hgf:V.fp kb g:=.inr (.inr (.inr (by rw [hlv];rfl)));have h1:=(h.setField hp hlv 1 (by omega) (.int .i64 s) (stT s S.R.T[p]) rfl).rd;have hp':p<(S.R.T.set p (stT s S.R.T[p])).length:=by simpa using hp
 obtain ⟨h2,f2,b2⟩:=h1.park (p:=p) hp' (by show V.tv=.slice _ (S.R.T.set p (stT s S.R.T[p])).length cap;rw [List.length_set];exact hlv) o s';refine ⟨?_,((Fr.refl w (V.fp kb)).setCell (.inl hgf) _ _).step f2 (fun _ hk=>.inl hk),by rw [bu] at b2;exact b2⟩;simp only [List.set_set,List.getElem_set_self] at h2;exact h2
theorem b37 {T:List ej}{b:Int}(h:∃t∈T,t.base=b):∃p,∃hp:p<T.length,T.findIdx? (af b)=some p/\thI T b=p/\T[p].base=b:=by
 cases hf:T.findIdx? (af b) with
 | some p=>
  obtain ⟨h1,h2,_⟩:=List.findIdx?_eq_some_iff_getElem.1 hf;exact ⟨p,h1,rfl,by unfold thI;rw [hf];rfl,by simpa [af] using h2⟩
 | none=>
  obtain ⟨t,ht,e1⟩:=h;rw [List.findIdx?_eq_none_iff] at hf;have:=hf t ht;simp [af,e1] at this
theorem bf7 {α:Type}{p:α->Bool}{l:List α}{k:Nat}(hk:k<l.length)(h:p l[k]=true)(hno:∀j (hj:j<l.length),j<k->p l[j]=false):l.find? p=some l[k]:=by
 rw [List.find?_eq_some_iff_getElem];exact ⟨h,k,hk,rfl,fun j hj=>by rw [hno j (by omega) hj];rfl⟩
theorem bf5 {α:Type}{p:α->Bool}{l:List α}(hno:∀j (hj:j<l.length),j<l.length->p l[j]=false):l.find? p=none:=by
 rw [List.find?_eq_none];intro x hx;obtain ⟨j,hj,rfl⟩:=List.getElem_of_mem hx;rw [hno j hj hj];simp
def zy (e:aw):Value:=.agg #[.int .i64 e.ty,.int .i64 e.base,.int .i64 e.bits,.int .i64 e.rights,.int .i64 e.badge,.int .i64 e.mark]
theorem Cl.cells_eq (c:Cl)(av tv:Value):c.cells av tv=#[.int .i64 c.kind,av,tv,.int .i64 c.ty,.int .i64 c.bits,.int .i64 c.count,.int .i64 c.rights,.int .i64 c.badge,.int .i64 c.value,.int .i64 c.offset]:=rfl
theorem ad0 {r:Int}(h:0<=r/\r<=7):qc r 2=(r / 2 % 2==0)/\qc r 1=(r % 2==0):=by
 obtain ⟨h1,h2⟩:=h;have e:r=0\/r=1\/r=2\/r=3\/r=4\/r=5\/r=6\/r=7:=by omega
 rcases e with rfl | rfl | rfl | rfl | rfl | rfl | rfl | rfl<;>decide
theorem xi (w:World)(a b:Array Value)(s t:TypeId):Fr w ((w.alloc (.cells a s)).alloc (.cells b t)) (fun _=>False)/\((w.alloc (.cells a s)).alloc (.cells b t)).heap[w.heap.size]?=some (.cells a s)/\((w.alloc (.cells a s)).alloc (.cells b t)).heap[w.heap.size+1]?=some (.cells b t):=by
 have h:=heap_alloc_new (w.alloc (.cells a s)) (.cells b t);rw [World.size_alloc] at h;exact ⟨((Fr.refl _ _).alloc _).alloc _,((Fr.refl (w.alloc (.cells a s)) (fun _=>False)).alloc _).same (heap_alloc_new _ _) id,h⟩
theorem b02 (S:RS)(V:ax)(kb:Nat)(b:Int)(c:Cl)(av tv:Value)(e:aw)(w:World)(h:RD w kb S V)(hr:0<=e.rights/\e.rights<=7)(hk:c.kind=7\/c.kind=8)
 (hno:e.ty≠3\/qc e.rights (if c.kind=8 then 1 else 2)=true\/(c.kind=7/\(c.value<0\/4294967295<c.value))) :
 Calls Tryz.prog 87 #[.pointer (some ⟨kb,0,none⟩),.int .i64 b,.agg (c.cells av tv),zy e] w (tk w kb V (fw S b c e)):=by
 have stay:∀W1 x,Fr w W1 (fun _=>False)->fw S b c e=(x,S)->tk w kb V (fw S b c e) (.returned (.int .i64 x)) W1:=by
  intro W1 x hf hy;rw [hy];exact ⟨rfl,V,h.frame hf (fun _ _=>id),hf.mono (fun _=>False.elim),fun k hk=>.inl hk⟩
 rw [Cl.cells_eq];unfold zy;obtain ⟨r2,r1⟩:=ad0 hr;have hK:((c.kind==7)=true/\(c.kind==8)=false/\qc e.rights (if c.kind=8 then 1 else 2)=(e.rights / 2 % 2==0))\/((c.kind==7)=false/\(c.kind==8)=true/\qc e.rights (if c.kind=8 then 1 else 2)=(e.rights % 2==0)):=by
  rcases hk with e | e
  ·left;rw [e];exact ⟨rfl,rfl,r2⟩
  ·right;rw [e];exact ⟨rfl,rfl,r1⟩
 by_cases ht:e.ty≠3
 ·have HY:Hid (fw S b c e=(3,S)):=by show _=_;unfold fw;rw [if_pos ht]
  have ht':(e.ty != 3)=true:=by simpa using ht
  clear hno ht hk r1 r2;rcases hK with ⟨k7,k8,_⟩ | ⟨k7,k8,_⟩;all_goals
   go_enter Tryz.func87,Tryz.ntmps87
   go_wp2_with fail
   go_ret;exact stay _ _ (((Fr.refl _ _).alloc _).alloc _) HY.out
 ·have ht1:e.ty=3:=by omega
  have hno:=hno.resolve_left ht;have ht':(e.ty != 3)=false:=by simp [ht1]
  by_cases hb:qc e.rights (if c.kind=8 then 1 else 2)=true
  ·have HY:Hid (fw S b c e=(5,S)):=by show _=_;unfold fw;rw [if_neg ht,if_pos hb]
   rw [hb] at hK;clear hno ht ht1 hk r1 r2 hb;rcases hK with ⟨k7,k8,hx⟩ | ⟨k7,k8,hx⟩;all_goals
    replace hx:=hx.symm;go_enter Tryz.func87,Tryz.ntmps87
    go_wp2_with fail
    go_ret;exact stay _ _ (((Fr.refl _ _).alloc _).alloc _) HY.out
  ·have hv:=hno.resolve_left hb;have HY:Hid (fw S b c e=(7,S)):=by show _=_;unfold fw;rw [if_neg ht,if_neg hb,if_pos hv]
   have hb':qc e.rights (if c.kind=8 then 1 else 2)=false:=by simpa using hb
   rw [hb'] at hK;obtain ⟨h7,hv⟩:=hv;have k7:(c.kind==7)=true:=by simpa using h7
   have k8:(c.kind==8)=false:=by simp;omega
   have hx:(e.rights / 2 % 2==0)=false:=by
    rcases hK with ⟨_,_,e⟩ | ⟨e,_⟩
    ·exact e.symm
    ·rw [k7] at e;cases e
   clear hno ht ht1 hk r1 r2 hb hb' hK h7;by_cases v0:c.value<0
   ·have d0:decide (c.value<0)=true:=by simpa using v0
    go_enter Tryz.func87,Tryz.ntmps87
    go_wp2_with fail
    go_ret;exact stay _ _ (((Fr.refl _ _).alloc _).alloc _) HY.out
   ·have d0:decide (c.value<0)=false:=by simpa using v0
    have d1:decide (4294967295<c.value)=true:=by simp;omega
    go_enter Tryz.func87,Tryz.ntmps87
    go_wp2_with fail
    go_ret;exact stay _ _ (((Fr.refl _ _).alloc _).alloc _) HY.out
theorem a08 {S:RS}{b:Int}{c:Cl}{e:aw}{x:Wt}(hk:c.kind=7)(ht:e.ty=3)(hr:qc e.rights 2=false)(hv:0<=c.value/\c.value<=4294967295)(hf:S.q.find? (dw e.base false)=some x):
 fw S b c e=(0,{S with R:={S.R with T:=setT x.thread (stand 1 c.value e.badge 0) S.R.T},q:=k_ x.thread S.q}):=by
 unfold fw;rw [if_neg (by omega),hk,if_neg (by rw [if_neg (by decide),hr];decide),if_neg (by omega),show decide ((7:Int)≠7)=false from rfl,hf];rfl
theorem a18 {S:RS}{b:Int}{c:Cl}{e:aw}(hk:c.kind=7)(ht:e.ty=3)(hr:qc e.rights 2=false)(hv:0<=c.value/\c.value<=4294967295)(hf:S.q.find? (dw e.base false)=none):
 fw S b c e=(0,{S with R:={S.R with T:=setT b (stT 2) S.R.T},q:=S.q++[⟨e.base,b,true,c.value,e.badge⟩]}):=by
 unfold fw;rw [if_neg (by omega),hk,if_neg (by rw [if_neg (by decide),hr];decide),if_neg (by omega),show decide ((7:Int)≠7)=false from rfl,hf];rfl
theorem az3 {S:RS}{b:Int}{c:Cl}{e:aw}{x:Wt}(hk:c.kind=8)(ht:e.ty=3)(hr:qc e.rights 1=false)(hf:S.q.find? (dw e.base true)=some x):
 fw S b c e=(0,{S with R:={S.R with T:=setT b (stand 1 x.value x.badge 0) (setT x.thread (stT 1) S.R.T)},q:=k_ x.thread S.q}):=by
 unfold fw;rw [if_neg (by omega),hk,if_neg (by rw [if_pos rfl,hr];decide),if_neg (by omega),show decide ((8:Int)≠7)=true from rfl,hf];rfl
theorem a62 {S:RS}{b:Int}{c:Cl}{e:aw}(hk:c.kind=8)(ht:e.ty=3)(hr:qc e.rights 1=false)(hf:S.q.find? (dw e.base true)=none):
 fw S b c e=(0,{S with R:={S.R with T:=setT b (stT 3) S.R.T},q:=S.q++[⟨e.base,b,false,0,0⟩]}):=by
 unfold fw;rw [if_neg (by omega),hk,if_neg (by rw [if_pos rfl,hr];decide),if_neg (by omega),show decide ((8:Int)≠7)=true from rfl,hf];rfl
theorem bw9 {x y:Int}{f:ej->ej}(hf:∀t,(f t).base=t.base){T:List ej}(h:∃t∈T,t.base=y):∃t∈setT x f T,t.base=y:=by
 obtain ⟨t,ht,e⟩:=h;have h2:y∈(setT x f T).map ej.base:=by rw [qt x f hf];exact List.mem_map.2 ⟨t,ht,e⟩
 exact List.mem_map.1 h2
theorem bp1 {x:Int}{f:ej->ej}(hf:∀t,(f t).base=t.base)(T:List ej):(setT x f T).length=T.length:=by
 have:=congrArg List.length (qt x f hf T);simpa using this
theorem b52 (S:RS)(V:ax)(kb:Nat)(b:Int)(c:Cl)(av tv:Value)(e:aw)(w:World)(h:RD w kb S V)(hnT:S.R.T.length<=900000)(hq:QIn S)(hbT:∃t∈S.R.T,t.base=b)(hk:c.kind=7)
 (ht:e.ty=3) (hr:0<=e.rights/\e.rights<=7) (hb:qc e.rights 2=false) (hv:0<=c.value/\c.value<=4294967295) :
 Calls Tryz.prog 87 #[.pointer (some ⟨kb,0,none⟩),.int .i64 b,.agg (c.cells av tv),zy e] w (tk w kb V (fw S b c e)):=by
 obtain ⟨iQ,hiQ,hQ0,hQ1,hQ2⟩:=info_parts bb8;obtain ⟨hnq,hth⟩:=hq;have HS:Aside (∀x,S.q.find? (dw e.base false)=some x->fw S b c e=_):=fun x hf=>a08 hk ht hb hv hf
 have HN:Aside (S.q.find? (dw e.base false)=none->fw S b c e=_):=a18 hk ht hb hv;rw [Cl.cells_eq];unfold zy;have ht':(e.ty != 3)=false:=by simp [ht]
 have k7:(c.kind==7)=true:=by rw [hk];rfl
 have k8:(c.kind==8)=false:=by rw [hk];rfl
 have hb':(e.rights / 2 % 2==0)=false:=by rw [<- (ad0 hr).1];exact hb
 have d0:decide (c.value<0)=false:=by simp;omega
 have d1:decide (4294967295<c.value)=false:=by simp;omega
 obtain ⟨A,cap,hqv,hA⟩:=bm xh h.q;obtain ⟨hfa,hbC,hbE⟩:=xi w #[.int .i64 c.kind,av,tv,.int .i64 c.ty,.int .i64 c.bits,.int .i64 c.count,.int .i64 c.rights,.int .i64 c.badge,.int .i64 c.value,.int .i64 c.offset] #[.int .i64 e.ty,.int .i64 e.base,.int .i64 e.bits,.int .i64 e.rights,.int .i64 e.badge,.int .i64 e.mark] 41 46;obtain ⟨p,hp,hpx,hpi,hpb⟩:=b37 hbT;have hkl:kb<w.heap.size:=h.ref.fpLt (.inl rfl);clear hk ht hb;go_enter Tryz.func87,Tryz.ntmps87
 go_upto_region 11 with (go_at_call 78;go_must (refine (ek S.R.T kb V.tv b _ (by omega) (h.frame hfa (fun _ _=>id)).ref.ct (h.frame hfa (fun _ _=>id)).ref.ltt).mono ?_);rintro e' W1 ⟨rfl,rfl⟩;rw [hpi])
 generalize hW:((w.alloc (.cells #[.int .i64 c.kind,av,tv,.int .i64 c.ty,.int .i64 c.bits,.int .i64 c.count,.int .i64 c.rights,.int .i64 c.badge,.int .i64 c.value,.int .i64 c.offset] 41)).alloc (.cells #[.int .i64 e.ty,.int .i64 e.base,.int .i64 e.bits,.int .i64 e.rights,.int .i64 e.badge,.int .i64 e.mark] 46))=W1 at *
 clear hW;have hs1:w.heap.size+1<W1.heap.size:=(Array.getElem?_eq_some_iff.1 hbE).1;have h1:RD W1 kb S V:=h.frame hfa (fun _ _=>id);have hcq:W1.cell? ⟨kb,1027,none⟩=some (.slice A S.q.length cap):=by rw [<- hqv];exact h1.ref.cq
 go_wp2;go_loopw [11] (fun i w'=>∃k:Nat,i=.int .i64 k/\k<=S.q.length/\Fr W1 w' (fun _=>False)/\∀j (hj:j<S.q.length),j<k->dw e.base false S.q[j]=false) (fun i _=>S.q.length-(intOf i).toNat)
 case atStart=>exact ⟨0,rfl,by omega,Fr.refl _ _,fun _ _ h=>by omega⟩
 case round=>
  obtain ⟨k,rfl,hk,hfr,hno⟩:=hrel;have hcr:=hfr.cell hcq id;have hbCr:=hfr.same hbC id;have hbEr:=hfr.same hbE id;have x0:=aa (o:=0) hbCr rfl;have x8:=aa (o:=8) hbCr rfl;have z1:=aa (o:=1) hbEr rfl;have z4:=aa (o:=4) hbEr rfl;have hkr:kb<wr.heap.size:=World.block_lt_of_cell? _ _ hcr;have hsr:w.heap.size+1<wr.heap.size:=(Array.getElem?_eq_some_iff.1 hbEr).1;have hsr0:w.heap.size<wr.heap.size:=by omega
  by_cases hlt:k<S.q.length
  ·obtain ⟨ga,rfl,hcells⟩:=hA (by omega);have q0:=hfr.cell (hfa.cell (hcells k hlt 0 _ rfl) id) id;have q1:=hfr.cell (hfa.cell (hcells k hlt 1 _ rfl) id) id;have q2:=hfr.cell (hfa.cell (hcells k hlt 2 _ rfl) id) id;have q3:=hfr.cell (hfa.cell (hcells k hlt 3 _ rfl) id) id;have q4:=hfr.cell (hfa.cell (hcells k hlt 4 _ rfl) id) id;simp only [Nat.add_zero] at q0;have hgr:ga<wr.heap.size:=World.block_lt_of_cell? _ _ q0;by_cases he:S.q[k].endp=e.base
   ·have he':(S.q[k].endp != e.base)=false:=by simp [he]
    cases hs:S.q[k].send with
    | true=>
     rw [hs] at q2;have hN:=oh (p:=dw e.base false) hlt hno (by simp [dw,hs]);clear hno he hs;go_wp2;go_roundw;case rel=>exact ⟨k+1,by go_num,by omega,hfr.alloc _,hN⟩
     case measure=>simp [intOf];omega
    | false=>
     rw [hs] at q2;have HY:=HS.out _ (bf7 hlt (by simp [dw,he,hs]) hno);have HYH:Hid (fw S b c e=_):=HY;clear HY hno he hs HS HN;have hfW:=fun o:Obj=>hfr.alloc o
     have hbw:=heap_alloc_new wr (.cells (#[.int .i64 S.q[k].endp,.int .i64 S.q[k].thread,.bool false,.int .i64 S.q[k].value,.int .i64 S.q[k].badge]) 191);go_wp2_with (first
      |(go_at_call 108;go_must (refine (ax2 S V kb S.q[k].thread 1 c.value e.badge 0 _ (h1.frame (hfW _) (fun _ _=>id)) (by omega) (hth _ (List.getElem_mem hlt))).mono ?_);rintro e' W3 ⟨rfl,h3,hf3⟩
        have y1:=aa (o:=1) (hf3.same hbw (fun e=>by have:=h.ref.fpLt e;omega)) rfl)
      |(go_at_call 109;go_must (refine (ss _ V kb S.q[k].thread _ h3 hnq).mono ?_);rintro e' W4 ⟨rfl,qv4,hO4,hf4⟩))
     go_ret;rw [HYH.out];exact ⟨rfl,_,((⟨h1.frame (hfW _) (fun _ _=>id),(hfa.step (hfW _) (fun _=>False.elim)).mono (fun _=>False.elim),fun _ hk=>.inl hk⟩:fh w kb V S V _).trans ⟨h3,hf3.mono (fun _ hk=>.inl hk),fun _ hk=>.inl hk⟩).trans hO4⟩
   ·have he':(S.q[k].endp != e.base)=true:=by simp [he]
    have hN:=oh (p:=dw e.base false) hlt hno (by simp [dw,he]);clear hno he;go_wp2;go_roundw;case rel=>exact ⟨k+1,by go_num,by omega,hfr.alloc _,hN⟩
    case measure=>simp [intOf];omega
  ·obtain rfl:k=S.q.length:=by omega
   have HY:=HN.out (bf5 hno);have HYH:Hid (fw S b c e=_):=HY;clear HY hno HS HN;obtain ⟨gt,capt,htv,hcapt,hgt,_,t1,_⟩:=iq h.ref p hp;have hrr:=h1.frame hfr (fun _ _=>id);have hct:=hrr.ref.ct;rw [htv] at hct;have t1:=hfr.cell (hfa.cell t1 id) id;have zt:wr.frozen? ⟨gt,p*6+1,none⟩=false:=aa3 hrr.ref htv _;have hgtr:gt<wr.heap.size:=World.block_lt_of_cell? _ _ t1;have hgtk:gt≠kb:=fun e=>h.ref.kt (by rw [htv,<- e];rfl)
   have hgt1:gt≠w.heap.size:=by omega
   have hgt2:gt≠w.heap.size+1:=by omega
   have hgt3:gt≠wr.heap.size:=by omega
   have HTS:Hid (setT b (stT 2) S.R.T=S.R.T.set p (stT 2 S.R.T[p])):=aa9 hp hpx;go_upto_region 28 with fail
   obtain ⟨hP,hPf,hPb⟩:=hrr.park2 hp htv (.cells #[.int .i64 e.base,.int .i64 b,.bool true,.int .i64 c.value,.int .i64 e.badge] 191) 3 2;rw [<- HTS.out] at hP;generalize ((wr.setCell ⟨gt,p*6+1,none⟩ (.int .i64 3)).setCell ⟨gt,p*6+1,none⟩ (.int .i64 2)).alloc (.cells #[.int .i64 e.base,.int .i64 b,.bool true,.int .i64 c.value,.int .i64 e.badge] 191)=WX at hP hPf hPb ⊢;have hcX:=hP.ref.cq;rw [hqv] at hcX;have hzX:=hP.ref.fz 1027;have hkX:kb<WX.heap.size:=World.block_lt_of_cell? _ _ hcX;have hbX:wr.heap.size<WX.heap.size:=(Array.getElem?_eq_some_iff.1 hPb).1;obtain ⟨y0,y1,y2,y3,y4⟩:=a80 hPb;have hoq:WX.ownsRow 0 191 5 V.qv S.q.length (S.q.flatMap sj):=hP.q;rw [hqv] at hoq;have hOX:fh w kb V _ V WX:=⟨hP,((hfa.mono (fun _=>False.elim)).step hfr (fun _=>False.elim)).step hPf (fun _ hk=>.inl (.inl hk)),fun _ hk=>.inl hk⟩
   clear hct t1 zt hcr x0 x8 z1 z4 hcq hA hrr;go_region_law
    (first
    |(refine step_append_lies _ rfl _ _ 104 rfl 0 191 iQ _ 5 40 Tryz.underlying104 hiQ hQ0 hQ1 hQ2 rfl (by decide) (.slice A S.q.length cap) _ _ rfl (World.ownsRow.alloc hoq _) ⟨_,0,none⟩ 1 1 (sj ⟨e.base,b,true,c.value,e.badge⟩) rfl rfl (dg _ _ _) (ae8 _) (by decide) (by unfold maxLen;omega) (by omega) (Nat.zero_le _) (WX.heap.size+1) (by simp) ?_;intro g8 cap8 W8 hown8 hg8 hat8 hlt8
      have hf28:Fr WX W8 (fun r=>V.qv.ownBlock=some r):=(((Fr.refl WX (fun r=>V.qv.ownBlock=some r)).drew).alloc (.cells #[.int .i64 e.base,.int .i64 b,.bool true,.int .i64 c.value,.int .i64 e.badge] 191)).grown hg8 (fun r hr=>.inl (by rw [hqv];exact hr))
      have hO8:=hP.pushQ hf28 hown8 (hat8.imp (fun e=>by rw [hqv];exact e) (fun e=>by omega));have h98:=hP.ref.frame hf28 (fun k hk e=>(h.qk k e).1 hk)
      have hc8:W8.cell? ⟨kb,1027,none⟩=some (.slice A S.q.length cap):=by rw [<- hqv];exact h98.cq
      have hz8:W8.frozen? ⟨kb,1027,none⟩=false:=h98.fz 1027))
   all_goals
    go_wp2;go_ret;rw [HYH.out];exact ⟨rfl,_,hOX.trans hO8⟩
theorem b60 (S:RS)(V:ax)(kb:Nat)(b:Int)(c:Cl)(av tv:Value)(e:aw)(w:World)(h:RD w kb S V)(hnT:S.R.T.length<=900000)(hq:QIn S)(hbT:∃t∈S.R.T,t.base=b)(hk:c.kind=8)
 (ht:e.ty=3) (hr:0<=e.rights/\e.rights<=7) (hb:qc e.rights 1=false) :
 Calls Tryz.prog 87 #[.pointer (some ⟨kb,0,none⟩),.int .i64 b,.agg (c.cells av tv),zy e] w (tk w kb V (fw S b c e)):=by
 obtain ⟨iQ,hiQ,hQ0,hQ1,hQ2⟩:=info_parts bb8;obtain ⟨hnq,hth⟩:=hq;have HS:Aside (∀x,S.q.find? (dw e.base true)=some x->fw S b c e=_):=fun x hf=>az3 hk ht hb hf
 have HN:Aside (S.q.find? (dw e.base true)=none->fw S b c e=_):=a62 hk ht hb;rw [Cl.cells_eq];unfold zy;have ht':(e.ty != 3)=false:=by simp [ht]
 have k7:(c.kind==7)=false:=by rw [hk];rfl
 have k8:(c.kind==8)=true:=by rw [hk];rfl
 have hb':(e.rights % 2==0)=false:=by rw [<- (ad0 hr).2];exact hb
 obtain ⟨A,cap,hqv,hA⟩:=bm xh h.q;obtain ⟨hfa,hbC,hbE⟩:=xi w #[.int .i64 c.kind,av,tv,.int .i64 c.ty,.int .i64 c.bits,.int .i64 c.count,.int .i64 c.rights,.int .i64 c.badge,.int .i64 c.value,.int .i64 c.offset] #[.int .i64 e.ty,.int .i64 e.base,.int .i64 e.bits,.int .i64 e.rights,.int .i64 e.badge,.int .i64 e.mark] 41 46;obtain ⟨p,hp,hpx,hpi,hpb⟩:=b37 hbT;have hkl:kb<w.heap.size:=h.ref.fpLt (.inl rfl);clear hk ht hb;go_enter Tryz.func87,Tryz.ntmps87
 go_upto_region 11 with (go_at_call 78;go_must (refine (ek S.R.T kb V.tv b _ (by omega) (h.frame hfa (fun _ _=>id)).ref.ct (h.frame hfa (fun _ _=>id)).ref.ltt).mono ?_);rintro e' W1 ⟨rfl,rfl⟩;rw [hpi])
 generalize hW:((w.alloc (.cells #[.int .i64 c.kind,av,tv,.int .i64 c.ty,.int .i64 c.bits,.int .i64 c.count,.int .i64 c.rights,.int .i64 c.badge,.int .i64 c.value,.int .i64 c.offset] 41)).alloc (.cells #[.int .i64 e.ty,.int .i64 e.base,.int .i64 e.bits,.int .i64 e.rights,.int .i64 e.badge,.int .i64 e.mark] 46))=W1 at *
 clear hW;have hs1:w.heap.size+1<W1.heap.size:=(Array.getElem?_eq_some_iff.1 hbE).1;have h1:RD W1 kb S V:=h.frame hfa (fun _ _=>id);have hcq:W1.cell? ⟨kb,1027,none⟩=some (.slice A S.q.length cap):=by rw [<- hqv];exact h1.ref.cq
 go_wp2;go_loopw [11] (fun i w'=>∃k:Nat,i=.int .i64 k/\k<=S.q.length/\Fr W1 w' (fun _=>False)/\∀j (hj:j<S.q.length),j<k->dw e.base true S.q[j]=false) (fun i _=>S.q.length-(intOf i).toNat)
 case atStart=>exact ⟨0,rfl,by omega,Fr.refl _ _,fun _ _ h=>by omega⟩
 case round=>
  obtain ⟨k,rfl,hk,hfr,hno⟩:=hrel;have hcr:=hfr.cell hcq id;have hbCr:=hfr.same hbC id;have hbEr:=hfr.same hbE id;have x0:=aa (o:=0) hbCr rfl;have x8:=aa (o:=8) hbCr rfl;have z1:=aa (o:=1) hbEr rfl;have z4:=aa (o:=4) hbEr rfl;have hkr:kb<wr.heap.size:=World.block_lt_of_cell? _ _ hcr;have hsr:w.heap.size+1<wr.heap.size:=(Array.getElem?_eq_some_iff.1 hbEr).1;have hsr0:w.heap.size<wr.heap.size:=by omega
  by_cases hlt:k<S.q.length
  ·obtain ⟨ga,rfl,hcells⟩:=hA (by omega);have q0:=hfr.cell (hfa.cell (hcells k hlt 0 _ rfl) id) id;have q1:=hfr.cell (hfa.cell (hcells k hlt 1 _ rfl) id) id;have q2:=hfr.cell (hfa.cell (hcells k hlt 2 _ rfl) id) id;have q3:=hfr.cell (hfa.cell (hcells k hlt 3 _ rfl) id) id;have q4:=hfr.cell (hfa.cell (hcells k hlt 4 _ rfl) id) id;simp only [Nat.add_zero] at q0;have hgr:ga<wr.heap.size:=World.block_lt_of_cell? _ _ q0;by_cases he:S.q[k].endp=e.base
   ·have he':(S.q[k].endp != e.base)=false:=by simp [he]
    cases hs:S.q[k].send with
    | false=>
     rw [hs] at q2;have hN:=oh (p:=dw e.base true) hlt hno (by simp [dw,hs]);clear hno he hs;go_wp2;go_roundw;case rel=>exact ⟨k+1,by go_num,by omega,hfr.alloc _,hN⟩
     case measure=>simp [intOf];omega
    | true=>
     rw [hs] at q2;have HY:=HS.out _ (bf7 hlt (by simp [dw,he,hs]) hno);have HYH:Hid (fw S b c e=_):=HY;clear HY hno he hs HS HN;have hfW:=fun o:Obj=>hfr.alloc o
     obtain ⟨p2,hp2,hpx2,hpi2,_⟩:=b37 (hth _ (List.getElem_mem hlt));obtain ⟨gt,capt,htv,hcapt,hgt,_,t1,_⟩:=iq h.ref p2 hp2;have hbw:=heap_alloc_new wr (.cells (#[.int .i64 S.q[k].endp,.int .i64 S.q[k].thread,.bool true,.int .i64 S.q[k].value,.int .i64 S.q[k].badge]) 191);have hgf:V.fp kb gt:=.inr (.inr (.inr (by rw [htv];rfl)));have HTS:Hid (setT S.q[k].thread (stT 1) S.R.T=S.R.T.set p2 (stT 1 S.R.T[p2])):=aa9 hp2 hpx2;go_upto_region 18 with fail
     have hX:=hfW (.cells (#[.int .i64 S.q[k].endp,.int .i64 S.q[k].thread,.bool true,.int .i64 S.q[k].value,.int .i64 S.q[k].badge]) 191);have hXs:=World.size_alloc wr (.cells (#[.int .i64 S.q[k].endp,.int .i64 S.q[k].thread,.bool true,.int .i64 S.q[k].value,.int .i64 S.q[k].badge]) 191);generalize hWX:wr.alloc (.cells (#[.int .i64 S.q[k].endp,.int .i64 S.q[k].thread,.bool true,.int .i64 S.q[k].value,.int .i64 S.q[k].badge]) 191)=WX at *
     clear hWX hfW;have hXR:=h1.frame hX (fun _ _=>id);have hct:=hXR.ref.ct;rw [htv] at hct;have t1:=hX.cell (hfa.cell t1 id) id;have zt:WX.frozen? ⟨gt,p2*6+1,none⟩=false:=aa3 hXR.ref htv _;have b1:=aa (o:=1) hbw rfl;have hkX:kb<WX.heap.size:=World.block_lt_of_cell? _ _ hct;have hgX:gt<WX.heap.size:=World.block_lt_of_cell? _ _ t1;have hwX:wr.heap.size<WX.heap.size:=(Array.getElem?_eq_some_iff.1 hbw).1;have hOX:fh w kb V S V WX:=⟨hXR,(hfa.step hX (fun _=>False.elim)).mono (fun _=>False.elim),fun _ hk=>.inl hk⟩
     have hOS:=hXR.setField hp2 htv 1 (by omega) (.int .i64 1) (stT 1 S.R.T[p2]) rfl;have hTD:=fun W (hF:Fr WX W (fun _=>False))=>ek S.R.T kb V.tv S.q[k].thread W (by omega) (hXR.frame hF (fun _ _=>id)).ref.ct (hXR.frame hF (fun _ _=>id)).ref.ltt
     rw [<- HTS.out] at hOS;rw [hpi2] at hTD;clear hpx2 q0 q1 q2 q3 q4 hcr x0 x8 z1 z4;go_region_law (go_simp;go_at_call 78;refine (hTD _ ((Fr.refl _ _).drew)).mono ?_;rintro e' W3 ⟨rfl,rfl⟩)
     all_goals
      have hO3:=hOX.trans hOS;have hb3:=(Fr.s1 WX gt (p2*6+1) (.int .i64 1)).same hbw (by show ¬wr.heap.size=gt;omega);generalize WX.setCell ⟨gt,p2*6+1,none⟩ (.int .i64 1)=WY at hO3 hb3 ⊢;have hO4:=hO3.drewN 1;have hb4:(WY.drewN 1).heap[wr.heap.size]?=_:=hb3;rw [show WY.drew=WY.drewN 1 from rfl];generalize WY.drewN 1=WZ at hO4 hb4 ⊢;have y1:=aa (o:=1) hb4 rfl;have y3:=aa (o:=3) hb4 rfl;have y4:=aa (o:=4) hb4 rfl;clear hO3 hb3 hOS hOX hct t1 zt b1 hTD;go_wp2_with (first
       |(go_at_call 108;go_must (refine (ax2 _ V kb b 1 S.q[k].value S.q[k].badge 0 _ hO4.rd (by show (setT S.q[k].thread (stT 1) S.R.T).length<=_;rw [bp1 (f:=stT 1) (fun _=>rfl)];exact hnT) (bw9 (f:=stT 1) (fun _=>rfl) hbT)).mono ?_);rintro e' W5 ⟨rfl,h5,hf5⟩
         have y5:=aa (o:=1) (hf5.same hb4 (fun e=>by have:=h.ref.fpLt e;omega)) rfl)
       |(go_at_call 109;go_must (refine (ss _ V kb S.q[k].thread _ h5 hnq).mono ?_);rintro e' W6 ⟨rfl,qv6,hO6,hf6⟩))
      go_ret;rw [HYH.out];exact ⟨rfl,_,(hO4.trans ⟨h5,hf5.mono (fun _ hk=>.inl hk),fun _ hk=>.inl hk⟩).trans hO6⟩
   ·have he':(S.q[k].endp != e.base)=true:=by simp [he]
    have hN:=oh (p:=dw e.base true) hlt hno (by simp [dw,he]);clear hno he;go_wp2;go_roundw;case rel=>exact ⟨k+1,by go_num,by omega,hfr.alloc _,hN⟩
    case measure=>simp [intOf];omega
  ·obtain rfl:k=S.q.length:=by omega
   have HY:=HN.out (bf5 hno);have HYH:Hid (fw S b c e=_):=HY;clear HY hno HS HN;obtain ⟨gt,capt,htv,hcapt,hgt,_,t1,_⟩:=iq h.ref p hp;have hrr:=h1.frame hfr (fun _ _=>id);have hct:=hrr.ref.ct;rw [htv] at hct;have t1:=hfr.cell (hfa.cell t1 id) id;have zt:wr.frozen? ⟨gt,p*6+1,none⟩=false:=aa3 hrr.ref htv _;have hgtr:gt<wr.heap.size:=World.block_lt_of_cell? _ _ t1;have hgtk:gt≠kb:=fun e=>h.ref.kt (by rw [htv,<- e];rfl)
   have hgt1:gt≠w.heap.size:=by omega
   have hgt2:gt≠w.heap.size+1:=by omega
   have hgt3:gt≠wr.heap.size:=by omega
   have HTS:Hid (setT b (stT 3) S.R.T=S.R.T.set p (stT 3 S.R.T[p])):=aa9 hp hpx;go_upto_region 28 with fail
   obtain ⟨hP,hPf,hPb⟩:=hrr.park hp htv (.cells #[.int .i64 e.base,.int .i64 b,.bool false,.int .i64 0,.int .i64 0] 191) 3;rw [<- HTS.out] at hP;generalize (wr.setCell ⟨gt,p*6+1,none⟩ (.int .i64 3)).alloc (.cells #[.int .i64 e.base,.int .i64 b,.bool false,.int .i64 0,.int .i64 0] 191)=WX at hP hPf hPb ⊢;have hcX:=hP.ref.cq;rw [hqv] at hcX;have hzX:=hP.ref.fz 1027;have hkX:kb<WX.heap.size:=World.block_lt_of_cell? _ _ hcX;have hbX:wr.heap.size<WX.heap.size:=(Array.getElem?_eq_some_iff.1 hPb).1;obtain ⟨y0,y1,y2,y3,y4⟩:=a80 hPb;have hoq:WX.ownsRow 0 191 5 V.qv S.q.length (S.q.flatMap sj):=hP.q;rw [hqv] at hoq;have hOX:fh w kb V _ V WX:=⟨hP,((hfa.mono (fun _=>False.elim)).step hfr (fun _=>False.elim)).step hPf (fun _ hk=>.inl (.inl hk)),fun _ hk=>.inl hk⟩
   clear hct t1 zt hcr x0 x8 z1 z4 hcq hA hrr;go_region_law
    (first
    |(refine step_append_lies _ rfl _ _ 104 rfl 0 191 iQ _ 5 40 Tryz.underlying104 hiQ hQ0 hQ1 hQ2 rfl (by decide) (.slice A S.q.length cap) _ _ rfl (World.ownsRow.alloc hoq _) ⟨_,0,none⟩ 1 1 (sj ⟨e.base,b,false,0,0⟩) rfl rfl (dg _ _ _) (ae8 _) (by decide) (by unfold maxLen;omega) (by omega) (Nat.zero_le _) (WX.heap.size+1) (by simp) ?_;intro g8 cap8 W8 hown8 hg8 hat8 hlt8
      have hf28:Fr WX W8 (fun r=>V.qv.ownBlock=some r):=(((Fr.refl WX (fun r=>V.qv.ownBlock=some r)).drew).alloc (.cells #[.int .i64 e.base,.int .i64 b,.bool false,.int .i64 0,.int .i64 0] 191)).grown hg8 (fun r hr=>.inl (by rw [hqv];exact hr))
      have hO8:=hP.pushQ hf28 hown8 (hat8.imp (fun e=>by rw [hqv];exact e) (fun e=>by omega));have h98:=hP.ref.frame hf28 (fun k hk e=>(h.qk k e).1 hk)
      have hc8:W8.cell? ⟨kb,1027,none⟩=some (.slice A S.q.length cap):=by rw [<- hqv];exact h98.cq
      have hz8:W8.frozen? ⟨kb,1027,none⟩=false:=h98.fz 1027))
   all_goals
    go_wp2;go_ret;rw [HYH.out];exact ⟨rfl,_,hOX.trans hO8⟩
end Go.Proofs.YtdpjgflemddekaaGreatDoor

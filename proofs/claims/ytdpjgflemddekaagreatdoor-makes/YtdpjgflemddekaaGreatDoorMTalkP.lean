/- The calls of the kinds 7 to 11 as plain functions, and that the two kernels agree on them. Nothing of the program's text. -/
import Derived.Test.YtdpjgflemddekaaGreatDoorMTakA
namespace Go.Proofs.YtdpjgflemddekaaGreatDoor
def qc (r right:Int):Bool:=decide (Int.tmod (Int.tdiv r right) 2=0)
def bk5 (v g:Int)(t:ej):ej:={t with state:=1,value:=v,badge:=g,err:=0}
def stT (s:Int)(t:ej):ej:={t with state:=s}
def zw (r:Int)(t:ej):ej:={t with root:=r}
def dw (b:Int)(s:Bool)(w:Wt):Bool:=w.endp==b && w.send==s
def fw (S:RS)(b:Int)(c:Cl)(e:aw):Int×RS:=
 if e.ty≠3 then (3,S)
 else if qc e.rights (if c.kind=8 then 1 else 2) then (5,S)
 else if c.kind=7/\(c.value<0\/4294967295<c.value) then (7,S)
 else match S.q.find? (dw e.base (decide (c.kind≠7))) with
  | some w=>(0,{S with R:={S.R with T:=if c.kind=7 then setT w.thread (bk5 c.value e.badge) S.R.T else setT b (bk5 w.value w.badge) (setT w.thread (stT 1) S.R.T)},q:=k_ w.thread S.q})
  | none=>(0,{S with R:={S.R with T:=setT b (stT (if c.kind=7 then 2 else 3)) S.R.T},q:=S.q++[if c.kind=7 then ⟨e.base,b,true,c.value,e.badge⟩ else ⟨e.base,b,false,0,0⟩]})
def ag2 (K:a_)(b s:Int):a_:=setThr K b ⟨s,(gy K b).root,(gy K b).value,(gy K b).badge,(gy K b).err⟩
def bf2 (K:a_)(b v g e:Int):a_:=setThr K b ⟨1,(gy K b).root,v,g,e⟩
def setQ (K:a_)(b:Int)(y:List dx×List dx):a_:={K with qs:=upd K.qs b (some y)}
def sendAt (K:a_)(th:Int)(c:Cl)(b g:Int)(y:List dx×List dx):a_:=
 match y.2 with
 | w :: l=>bf2 (setQ K b (y.1,l)) w.thread c.value g 0
 | []=>ag2 (setQ K b (y.1++[⟨th,c.value,g⟩],y.2)) th 2
def recvAt (K:a_)(th:Int)(b:Int)(y:List dx×List dx):a_:=
 match y.1 with
 | w :: l=>bf2 (ag2 (setQ K b (l,y.2)) w.thread 1) th w.value w.badge 0
 | []=>ag2 (setQ K b (y.1,y.2++[⟨th,0,0⟩])) th 3
def findE (K:a_)(root:Int)(c:Cl)(right:Int):Option (Int×Int×Int):=
 match az K root c.at_ with
 | none=>none
 | some s=>match K.held s with
  | some (.endpoint b _ r g)=>if gp r right=0 then some (5,0,0) else some (0,b,g)
  | _=>some (3,0,0)
def mg (K:a_)(th root:Int)(c:Cl):Option (Int×a_):=
 match findE K root c 2 with
 | none=>none
 | some (e,b,g)=>if e≠0 then some (e,K)
  else if 0<=c.value/\c.value<=4294967295 then some (0,sendAt K th c b g ((K.qs b).getD ([],[]))) else some (7,K)
def ow (K:a_)(th root:Int)(c:Cl):Option (Int×a_):=
 match findE K root c 1 with
 | none=>none
 | some (e,b,_)=>if e≠0 then some (e,K) else some (0,recvAt K th b ((K.qs b).getD ([],[])))
theorem ab4 {r:Int}(h:0<=r/\r<=7){right:Int}(hr:right=1\/right=2):qc r right=decide (gp r right=0):=by
 obtain ⟨h1,h2⟩:=h;have e:r=0\/r=1\/r=2\/r=3\/r=4\/r=5\/r=6\/r=7:=by omega
 rcases hr with rfl | rfl<;>rcases e with rfl | rfl | rfl | rfl | rfl | rfl | rfl | rfl<;>decide
theorem aa1 {r:Int}(h:0<=r/\r<=7):(r<4) ↔ gp r 4=0:=by
 obtain ⟨h1,h2⟩:=h;have e:r=0\/r=1\/r=2\/r=3\/r=4\/r=5\/r=6\/r=7:=by omega
 rcases e with rfl | rfl | rfl | rfl | rfl | rfl | rfl | rfl<;>decide
theorem rk (s:Bool)(b:Int)(q:List Wt):side s b q=(q.filter (dw b s)).map Wt.w:=rfl
theorem aj8 {q:List Wt}{b:Int}{s:Bool}{w:Wt}(hn:(q.map Wt.thread).Nodup)(h:q.find? (dw b s)=some w):side s b q=w.w :: side s b (k_ w.thread q):=by
 rw [ac5,rk];have h1:(q.filter (dw b s)).head?=some w:=by rw [List.head?_filter];exact h
 obtain ⟨l,hl⟩:∃l,q.filter (dw b s)=w :: l:=by
  cases hq:q.filter (dw b s) with
  | nil=>rw [hq] at h1;cases h1
  | cons a l=>rw [hq] at h1;cases h1;exact ⟨l,rfl⟩
 have hn2:((w :: l).map Wt.thread).Nodup:=by rw [<- hl];exact (List.filter_sublist.map _).nodup hn
 rw [List.map_cons,List.nodup_cons] at hn2;rw [hl,List.map_cons,List.filter_cons_of_neg (by simp [Wt.w])];congr 1;rw [List.filter_eq_self.2];intro a ha;obtain ⟨v,hv,rfl⟩:=List.mem_map.1 ha;have:v.thread≠w.thread:=fun e=>hn2.1 (by rw [<- e];exact List.mem_map.2 ⟨v,hv,rfl⟩)
 exact decide_eq_true this
theorem vo {q:List Wt}{e:Int}{s:Bool}{w:Wt}(hn:(q.map Wt.thread).Nodup)(hw:w∈q)(h:dw e s w=false):side s e (k_ w.thread q)=side s e q:=by
 rw [ac5,List.filter_eq_self.2];intro a ha;rw [rk] at ha;obtain ⟨v,hv,rfl⟩:=List.mem_map.1 ha;obtain ⟨h1,h2⟩:=List.mem_filter.1 hv;have:v.thread≠w.thread:=fun e1=>by
  have:=sy hn h1 hw e1;subst this;rw [h] at h2;cases h2
 exact decide_eq_true this
theorem ai9 {q:List Wt}{b:Int}{s:Bool}(h:q.find? (dw b s)=none):side s b q=[]:=by
 rw [rk,List.filter_eq_nil_iff.2 (fun w hw=>by simpa using List.find?_eq_none.1 h w hw)];rfl
def bf6 (s:Bool)(l:List dx)(b:Int)(q:List Wt):List dx×List dx:=if s then (l,side false b q) else (side true b q,l)
theorem yj.took {q:List Wt}{K K':a_}(h:yj q K){b:Int}{s:Bool}{w:Wt}(hw:q.find? (dw b s)=some w)(hq:K'.qs=upd K.qs b (some (bf6 s (side s b (k_ w.thread q)) b q)))
 (ht:∀x t,x≠w.thread->K.thr x=some t->t.state≠1->∃t',K'.thr x=some t'/\t'.state≠1):yj (k_ w.thread q) K':=by
 have hm:=List.mem_of_find?_eq_some hw;have hmw:=List.find?_some hw;refine ⟨fun e y hy=>?_,fun v hv=>?_,fun v hv=>?_,ak0 h.nd⟩
 ·rw [hq] at hy;by_cases e1:e=b
  ·subst e1;rw [ai] at hy;cases hy
   simp only [dw,Bool.and_eq_true,beq_iff_eq] at hmw;cases s with
   | true=>rw [vo (s:=false) h.nd hm (by simp [dw,hmw.2])];rfl
   | false=>rw [vo (s:=true) h.nd hm (by simp [dw,hmw.2])];rfl
  ·rw [ae _ _ e1] at hy;simp only [dw,Bool.and_eq_true,beq_iff_eq] at hmw;rw [h.qs e y hy,vo h.nd hm (by simp [dw,hmw.1,Ne.symm e1]),vo h.nd hm (by simp [dw,hmw.1,Ne.symm e1])]
 ·obtain ⟨y,hy⟩:=h.en v (List.mem_filter.1 hv).1;rw [hq];by_cases e1:v.endp=b
  ·exact ⟨_,by rw [e1,ai]⟩
  ·exact ⟨y,by rw [ae _ _ e1];exact hy⟩
 ·obtain ⟨h1,h2⟩:=List.mem_filter.1 hv;obtain ⟨t,e1,e2⟩:=h.th v h1;exact ht _ t (by simpa using h2) e1 e2
theorem aq9 (s:Bool)(b:Int)(q:List Wt)(v:Wt):side s b (q++[v])=side s b q++(if dw b s v then [v.w] else []):=by
 rw [rk,rk,List.filter_append,List.map_append];congr 1;by_cases h:dw b s v=true
 ·rw [if_pos h,List.filter_cons_of_pos h];rfl
 ·rw [if_neg h,List.filter_cons_of_neg h];rfl
theorem yj.joined {q:List Wt}{K K':a_}(h:yj q K){v:Wt}(hv:v.thread∉q.map Wt.thread)
 (hq:K'.qs=upd K.qs v.endp (some (bf6 v.send (side v.send v.endp q++[v.w]) v.endp q)))
 (ht:∀x t,x≠v.thread->K.thr x=some t->t.state≠1->∃t',K'.thr x=some t'/\t'.state≠1) (hv2:∃t,K'.thr v.thread=some t/\t.state≠1):yj (q++[v]) K':=by
 refine ⟨fun e y hy=>?_,fun u hu=>?_,fun u hu=>?_,?_⟩
 ·rw [hq] at hy;rw [aq9,aq9];by_cases e1:e=v.endp
  ·subst e1;rw [ai] at hy;cases hy
   cases hs:v.send with
   | true=>simp [bf6,dw,hs]
   | false=>simp [bf6,dw,hs]
  ·rw [ae _ _ e1] at hy;rw [h.qs e y hy,if_neg (by simp [dw,Ne.symm e1]),if_neg (by simp [dw,Ne.symm e1]),List.append_nil,List.append_nil]
 ·rw [hq];by_cases e1:u.endp=v.endp
  ·exact ⟨_,by rw [e1,ai]⟩
  ·rcases List.mem_append.1 hu with h1 | h1
   ·obtain ⟨y,hy⟩:=h.en u h1;exact ⟨y,by rw [ae _ _ e1];exact hy⟩
   ·simp at h1;rw [h1] at e1;exact absurd rfl e1
 ·rcases List.mem_append.1 hu with h1 | h1
  ·obtain ⟨t,g1,g2⟩:=h.th u h1;exact ht _ t (fun e=>hv (by rw [<- e];exact List.mem_map.2 ⟨u,h1,rfl⟩)) g1 g2
  ·simp at h1;rw [h1];exact hv2
 ·rw [List.map_append];exact vi h.nd hv
theorem bq.setThr {R:dq}{K:a_}{D:List (Int×Int)}(h:bq R K D){x:Int}{t:oz}(hx:K.thr x=some t)(f:ej->ej)(g:oz->oz)(hf:∀t,(f t).base=t.base)(hg:∀t:ej,(f t).thd=g t.thd){u:oz}(hu:u=g t):
 bq {R with T:=setT x f R.T} (Proofs.YtdpjgflemddekaaGreatDoor.setThr K x u) D:=by
 subst hu;refine ⟨⟨h.rel.cap,h.rel.emp,h.rel.tree,h.rel.nodes,?_⟩,h.geo,h.inN,h.dm,h.dn,h.nod,h.cap,h.hno,?_,?_,h.que,h.hen,h.nd,?_,h.nb,?_,h.rt,h.dap⟩
 ·intro y;show upd K.thr x (some (g t)) y=_;rw [ad8 x f hf];by_cases e:y=x
  ·subst e;rw [ai,if_pos rfl];have:=h.rel.thr y;rw [hx] at this;cases hq:R.T.find? (af y) with
   | none=>rw [hq] at this;cases this
   | some z=>
    rw [hq] at this;simp only [Option.map_some,Option.some.injEq] at this ⊢;rw [hg,this]
  ·rw [ae _ _ e,if_neg e];exact h.rel.thr y
 ·intro b y hy;have hy':upd K.thr x (some (g t)) b=some y:=hy;by_cases e:b=x
  ·rw [e];exact h.thd x t hx
  ·rw [ae _ _ e] at hy';exact h.thd b y hy'
 ·intro s b n r hs;by_cases e:b=x
  ·exact ⟨_,by rw [e];exact ai _ _ _⟩
  ·obtain ⟨t',ht'⟩:=h.hth s b n r hs;exact ⟨t',by show upd K.thr x _ b=_;rw [ae _ _ e];exact ht'⟩
 ·show ((setT x f R.T).map ej.base).Nodup;rw [qt x f hf];exact h.td
 ·intro t' ht';have:t'.base∈(setT x f R.T).map ej.base:=List.mem_map.2 ⟨t',ht',rfl⟩;rw [qt x f hf] at this;obtain ⟨t2,h1,h2⟩:=List.mem_map.1 this;rw [<- h2];exact h.tb t2 h1
theorem bq.setQ {R:dq}{K:a_}{D:List (Int×Int)}(h:bq R K D){b:Int}{y:List dx×List dx}(hb:K.qs b=some y)(z:List dx×List dx):bq R (Proofs.YtdpjgflemddekaaGreatDoor.setQ K b z) D:=by
 refine ⟨⟨h.rel.cap,h.rel.emp,h.rel.tree,h.rel.nodes,h.rel.thr⟩,h.geo,h.inN,h.dm,h.dn,h.nod,h.cap,h.hno,h.thd,h.hth,?_,?_,h.nd,h.td,h.nb,h.tb,h.rt,h.dap⟩
 ·intro e x hx;have hx':upd K.qs b (some z) e=some x:=hx;by_cases e1:e=b
  ·rw [e1];exact h.que b y hb
  ·rw [ae _ _ e1] at hx';exact h.que e x hx'
 ·intro s e n r g hs;by_cases e1:e=b
  ·exact ⟨z,by rw [e1];exact ai _ _ _⟩
  ·obtain ⟨x,hx⟩:=h.hen s e n r g hs;exact ⟨x,by show upd K.qs b _ e=_;rw [ae _ _ e1];exact hx⟩
theorem mx {K:a_}{x:Int}{t:oz}(h:K.thr x=some t):gy K x=t:=by unfold gy;rw [h];rfl
theorem Ag.told {S:RS}{S':KS}(h:Ag S S'){w:Wt}(hw:w∈S.q):∃t,S'.K.thr w.thread=some t/\t.state≠1:=h.q.th w hw
theorem Ag.sendAt {S:RS}{S':KS}(h:Ag S S'){th:Int}{t:oz}(ht:S'.K.thr th=some t)(hs:t.state=1)(c:Cl)(b g:Int){y:List dx×List dx}(hb:S'.K.qs b=some y):
 Ag (match S.q.find? (dw b false) with
  | some w=>{S with R:={S.R with T:=setT w.thread (bk5 c.value g) S.R.T},q:=k_ w.thread S.q}
  | none=>{S with R:={S.R with T:=setT th (stT 2) S.R.T},q:=S.q++[⟨b,th,true,c.value,g⟩]}) ⟨Proofs.YtdpjgflemddekaaGreatDoor.sendAt S'.K th c b g y,S'.D⟩:=by
 have hy:=h.q.qs b y hb;subst hy;cases hf:S.q.find? (dw b false) with
 | some w=>
  have hfst:=aj8 h.q.nd hf;obtain ⟨tw,hw1,hw2⟩:=h.told (List.mem_of_find?_eq_some hf);have hsa:Proofs.YtdpjgflemddekaaGreatDoor.sendAt S'.K th c b g (side true b S.q,side false b S.q)=bf2 (setQ S'.K b (side true b S.q,side false b (k_ w.thread S.q))) w.thread c.value g 0:=by
   unfold Proofs.YtdpjgflemddekaaGreatDoor.sendAt;rw [hfst];rfl
  rw [hsa];have h1:=h.core.setQ hb (side true b S.q,side false b (k_ w.thread S.q));have hth:(setQ S'.K b (side true b S.q,side false b (k_ w.thread S.q))).thr w.thread=some tw:=hw1;refine ⟨h1.setThr hth (bk5 c.value g) (fun t=>⟨1,t.root,c.value,g,0⟩) (fun _=>rfl) (fun _=>rfl) (by rw [mx hth]),h.d,h.ws,?_⟩;refine h.q.took hf rfl (fun x t' hx h2 h3=>⟨t',?_,h3⟩);show upd S'.K.thr w.thread _ x=_;rw [ae _ _ hx];exact h2
 | none=>
  have he:=ai9 hf;obtain ⟨r1,_⟩:=h.q.room h.core ht hs;have hsa:Proofs.YtdpjgflemddekaaGreatDoor.sendAt S'.K th c b g (side true b S.q,side false b S.q)=ag2 (setQ S'.K b (side true b S.q++[⟨th,c.value,g⟩],side false b S.q)) th 2:=by
   unfold Proofs.YtdpjgflemddekaaGreatDoor.sendAt;simp only [he]
  rw [hsa];have h1:=h.core.setQ hb (side true b S.q++[⟨th,c.value,g⟩],side false b S.q);have hth:(setQ S'.K b (side true b S.q++[⟨th,c.value,g⟩],side false b S.q)).thr th=some t:=ht;refine ⟨h1.setThr hth (stT 2) (fun t=>⟨2,t.root,t.value,t.badge,t.err⟩) (fun _=>rfl) (fun _=>rfl) (by rw [mx hth]),h.d,h.ws,?_⟩;refine h.q.joined (v:=⟨b,th,true,c.value,g⟩) r1 rfl (fun x t' hx h2 h3=>⟨t',?_,h3⟩) ⟨_,ai _ _ _,by show (2:Int)≠1;decide⟩;show upd S'.K.thr th _ x=_;rw [ae _ _ hx];exact h2
theorem Ag.recvAt {S:RS}{S':KS}(h:Ag S S'){th:Int}{t:oz}(ht:S'.K.thr th=some t)(hs:t.state=1)(b:Int){y:List dx×List dx}(hb:S'.K.qs b=some y):
 Ag (match S.q.find? (dw b true) with
  | some w=>{S with R:={S.R with T:=setT th (bk5 w.value w.badge) (setT w.thread (stT 1) S.R.T)},q:=k_ w.thread S.q}
  | none=>{S with R:={S.R with T:=setT th (stT 3) S.R.T},q:=S.q++[⟨b,th,false,0,0⟩]}) ⟨Proofs.YtdpjgflemddekaaGreatDoor.recvAt S'.K th b y,S'.D⟩:=by
 have hy:=h.q.qs b y hb;subst hy;cases hf:S.q.find? (dw b true) with
 | some w=>
  have hfst:=aj8 h.q.nd hf;obtain ⟨tw,hw1,hw2⟩:=h.told (List.mem_of_find?_eq_some hf);have hne:th≠w.thread:=fun e=>by rw [<- e,ht] at hw1;cases hw1;exact hw2 hs
  have hsa:Proofs.YtdpjgflemddekaaGreatDoor.recvAt S'.K th b (side true b S.q,side false b S.q)=bf2 (ag2 (setQ S'.K b (side true b (k_ w.thread S.q),side false b S.q)) w.thread 1) th w.value w.badge 0:=by
   unfold Proofs.YtdpjgflemddekaaGreatDoor.recvAt;rw [hfst];rfl
  rw [hsa];have h1:=h.core.setQ hb (side true b (k_ w.thread S.q),side false b S.q);have hth:(setQ S'.K b (side true b (k_ w.thread S.q),side false b S.q)).thr w.thread=some tw:=hw1;have h2:=h1.setThr hth (stT 1) (fun t=>⟨1,t.root,t.value,t.badge,t.err⟩) (fun _=>rfl) (fun _=>rfl) (u:=⟨1,tw.root,tw.value,tw.badge,tw.err⟩) rfl;have heq:ag2 (setQ S'.K b (side true b (k_ w.thread S.q),side false b S.q)) w.thread 1=Proofs.YtdpjgflemddekaaGreatDoor.setThr (setQ S'.K b (side true b (k_ w.thread S.q),side false b S.q)) w.thread ⟨1,tw.root,tw.value,tw.badge,tw.err⟩:=by
   unfold ag2;rw [mx hth]
  rw [heq];have hth2:(Proofs.YtdpjgflemddekaaGreatDoor.setThr (setQ S'.K b (side true b (k_ w.thread S.q),side false b S.q)) w.thread ⟨1,tw.root,tw.value,tw.badge,tw.err⟩).thr th=some t:=by
   show upd S'.K.thr w.thread _ th=_;rw [ae _ _ hne];exact ht
  refine ⟨h2.setThr hth2 (bk5 w.value w.badge) (fun t=>⟨1,t.root,w.value,w.badge,0⟩) (fun _=>rfl) (fun _=>rfl) (by rw [mx hth2]),h.d,h.ws,?_⟩;refine h.q.took hf rfl (fun x t' hx g1 g2=>⟨t',?_,g2⟩);have hx2:x≠th:=fun e=>by rw [e,ht] at g1;cases g1;exact g2 hs
  show upd (upd S'.K.thr w.thread _) th _ x=_;rw [ae _ _ hx2,ae _ _ hx];exact g1
 | none=>
  have he:=ai9 hf;obtain ⟨r1,_⟩:=h.q.room h.core ht hs;have hsa:Proofs.YtdpjgflemddekaaGreatDoor.recvAt S'.K th b (side true b S.q,side false b S.q)=ag2 (setQ S'.K b (side true b S.q,side false b S.q++[⟨th,0,0⟩])) th 3:=by
   unfold Proofs.YtdpjgflemddekaaGreatDoor.recvAt;simp only [he]
  rw [hsa];have h1:=h.core.setQ hb (side true b S.q,side false b S.q++[⟨th,0,0⟩]);have hth:(setQ S'.K b (side true b S.q,side false b S.q++[⟨th,0,0⟩])).thr th=some t:=ht;refine ⟨h1.setThr hth (stT 3) (fun t=>⟨3,t.root,t.value,t.badge,t.err⟩) (fun _=>rfl) (fun _=>rfl) (by rw [mx hth]),h.d,h.ws,?_⟩;refine h.q.joined (v:=⟨b,th,false,0,0⟩) r1 rfl (fun x t' hx h2 h3=>⟨t',?_,h3⟩) ⟨_,ai _ _ _,by show (3:Int)≠1;decide⟩;show upd S'.K.thr th _ x=_;rw [ae _ _ hx];exact h2
def qu (ws:Nat->Int)(i:Nat)(v:Int):Nat->Int:=fun k=>if k=i then v else ws k
def lj (S:RS)(c:Cl)(e:aw):Int×Int×RS:=
 if e.ty≠5 then (0,3,S)
 else if qc e.rights (if c.kind=10 then 2 else 1) then (0,5,S)
 else if (c.offset<0\/pw e.bits.toNat<=c.offset)\/(c.kind=10/\(c.value<0\/4294967295<c.value)) then (0,7,S)
 else if c.kind=9 then (S.ws (e.base+c.offset).toNat,0,S)
 else (0,0,{S with ws:=qu S.ws (e.base+c.offset).toNat c.value})
def lc (S:RS)(root:Int)(c:Cl)(e:aw):Int×RS:=
 if e.ty≠4 then (3,S)
 else if e.rights<4 then (5,S)
 else match bk S.R.L S.R.N root c.to with
  | none=>(2,S)
  | some (n,ix)=>match S.R.L.findIdx? (ee n ix) with
   | none=>(3,S)
   | some p=>match S.R.L[p]? with
    | none=>(3,S)
    | some x=>if x.ty≠2 then (3,S) else if x.rights<4 then (5,S) else (0,{S with R:={S.R with T:=setT e.base (zw x.base) S.R.T}})
def ab6 (S:RS)(b:Int)(c:Cl):Int×Int×RS:=
 match S.R.T.find? (af b) with
 | none=>(0,1,S)
 | some t=>
  if t.state≠1 then (0,1,S)
  else match bk S.R.L S.R.N t.root c.at_ with
   | none=>(0,2,S)
   | some (n,ix)=>match S.R.L.findIdx? (ee n ix) with
    | none=>(0,3,S)
    | some p=>match S.R.L[p]? with
     | none=>(0,3,S)
     | some e=>if c.kind=7\/c.kind=8 then (0,fw S b c e)
      else if c.kind=9\/c.kind=10 then lj S c e
      else (0,lc S t.root c e)
def ww (S:RS)(b:Int)(c:Cl)(bs:List Bool):Int×Int×RS:=if 7<=c.kind/\c.kind<=11 then ab6 S b c else (0,p_ S b c bs)
def el (K:a_)(root:Int)(c:Cl)(right:Int):Option (Int×Int):=
 match az K root c.at_ with
 | none=>none
 | some s=>match K.held s with
  | some (.frame b n r)=>if gp r right=0 then some (5,0) else if c.offset<0\/pw n.toNat<=c.offset then some (7,0) else some (0,b+c.offset)
  | _=>some (3,0)
def m_ (K:a_)(root:Int)(c:Cl):Option (Int×Int):=
 match el K root c 1 with
 | none=>none
 | some (e,n)=>if e≠0 then some (0,e) else some (K.ws n.toNat,0)
def ig (K:a_)(root:Int)(c:Cl):Option (Int×a_):=
 match el K root c 2 with
 | none=>none
 | some (e,n)=>if e≠0 then some (e,K) else if 0<=c.value/\c.value<=4294967295 then some (0,{K with ws:=qu K.ws n.toNat c.value}) else some (7,K)
def ue (K:a_)(root:Int)(c:Cl):Option (Int×a_):=
 match az K root c.at_ with
 | none=>none
 | some s=>match K.held s with
  | some (.task b _ r)=>if gp r 4=0 then some (5,K) else
   match az K root c.to with
   | none=>none
   | some s'=>match K.held s' with
    | some (.node b' _ r')=>if gp r' 4=0 then some (5,K) else some (0,setThr K b ⟨(gy K b).state,b',(gy K b).value,(gy K b).badge,(gy K b).err⟩)
    | _=>some (3,K)
  | _=>some (3,K)
def du (K:a_)(th root:Int)(c:Cl):Option (Int×Int×a_):=
 if c.kind=7 then (mg K th root c).map (fun y=>(0,y.1,y.2))
 else if c.kind=8 then (ow K th root c).map (fun y=>(0,y.1,y.2))
 else if c.kind=9 then (m_ K root c).map (fun y=>(y.1,y.2,K))
 else if c.kind=10 then (ig K root c).map (fun y=>(0,y.1,y.2))
 else (ue K root c).map (fun y=>(0,y.1,y.2))
def px (S:KS)(th:Int)(c:Cl):Int×Int×KS:=
 match S.K.thr th with
 | none=>(0,1,S)
 | some t=>
  if t.state≠1 then (0,1,S)
  else match du S.K th t.root c with
   | none=>(0,2,S)
   | some y=>(y.1,y.2.1,⟨y.2.2,S.D⟩)
noncomputable def qg (S:KS)(th:Int)(c:Cl)(bs:List Bool):Int×Int×KS:=if 7<=c.kind/\c.kind<=11 then px S th c else (0,py S th c bs)
theorem ym {c:KCap}{e:aw}(h:c.told=e.told):e.ty=c.ty/\e.base=c.base/\e.bits=c.bits/\e.rights=c.rights/\e.badge=c.told.2.2.2.2.1:=by
 obtain ⟨h1,h2,_⟩:=pa h;refine ⟨(qp h).symm,h1.symm,h2.symm,?_,by rw [h];rfl⟩;unfold KCap.rights;rw [h];rfl
theorem bm2 {S:RS}{S':KS}(h:Ag S S')(th:Int)(c:Cl)(hk:7<=c.kind/\c.kind<=11):
 (ab6 S th c).1=(px S' th c).1/\(ab6 S th c).2.1=(px S' th c).2.1/\Ag (ab6 S th c).2.2 (px S' th c).2.2/\(ab6 S th c).2.2.D=S.D:=by
 unfold ab6 px;have hthr:=h.core.rel.thr th;rw [hthr];cases hf:S.R.T.find? (af th) with
 | none=>exact ⟨rfl,rfl,h,rfl⟩
 | some t=>
  rw [hf] at hthr;simp only [Option.map_some,ej.thd] at hthr ⊢;by_cases hs:t.state≠1
  ·rw [if_pos hs,if_pos hs];exact ⟨rfl,rfl,h,rfl⟩
  ·rw [if_neg hs,if_neg hs];have hs1:t.state=1:=Decidable.not_not.1 hs;have hfind:=h.core.rel.find t.root c.at_;cases hfi:bk S.R.L S.R.N t.root c.at_ with
   | none=>
    rw [hfi] at hfind;simp only [Option.map_none] at hfind;have:du S'.K th t.root c=none:=by
     unfold du;split
     ·unfold mg findE;rw [hfind];rfl
     ·split
      ·unfold ow findE;rw [hfind];rfl
      ·split
       ·unfold m_ el;rw [hfind];rfl
       ·split
        ·unfold ig el;rw [hfind];rfl
        ·unfold ue;rw [hfind];rfl
    rw [this];exact ⟨rfl,rfl,h,rfl⟩
   | some q=>
    obtain ⟨n,ix⟩:=q;rw [hfi] at hfind;simp only [Option.map_some,ta] at hfind ⊢;rcases h.core.rel.idx n ix with ⟨e1,e2⟩ | ⟨p,hp,e1,e2,k,e3,e4⟩
    ·rw [e1];have:du S'.K th t.root c=some (0,3,S'.K):=by
      unfold du;split
      ·unfold mg findE;simp only [hfind,e2];rfl
      ·split
       ·unfold ow findE;simp only [hfind,e2];rfl
       ·split
        ·unfold m_ el;simp only [hfind,e2];rfl
        ·split
         ·unfold ig el;simp only [hfind,e2];rfl
         ·unfold ue;simp only [hfind,e2];rfl
     rw [this];exact ⟨rfl,rfl,h,rfl⟩
    ·rw [e1];simp only [List.getElem?_eq_getElem hp];have hrt:=h.core.rt _ _ e3;obtain ⟨t1,t2,t3,t4,t5⟩:=ym e4;generalize hE:S.R.L[p]=E at *
     by_cases h78:c.kind=7\/c.kind=8
     ·rw [if_pos h78];unfold fw;cases k with
      | endpoint b n0 r g=>
       simp only [KCap.ty,KCap.base,KCap.told,KCap.rights] at t1 t2 t4 t5 hrt;rw [if_neg (by rw [t1];simp)];rw [t4,t2,t5];obtain ⟨y,hy⟩:=h.core.hen _ _ _ _ _ e3;by_cases h7:c.kind=7
       ·have h8:¬c.kind=8:=by omega
        have hc8:(if c.kind=8 then (1:Int) else 2)=2:=if_neg h8;have hd7:decide (c.kind≠7)=false:=decide_eq_false (fun e=>e h7);have hN:du S'.K th t.root c=(mg S'.K th t.root c).map (fun y=>(0,y.1,y.2)):=if_pos h7
        rw [hN,hc8,hd7,ab4 hrt (.inr rfl)];by_cases hr:gp r 2=0
        ·have hK:mg S'.K th t.root c=some (5,S'.K):=by unfold mg findE;simp only [hfind,e3,if_pos hr];rfl
         rw [hK,if_pos (decide_eq_true hr)];exact ⟨rfl,rfl,h,rfl⟩
        ·rw [if_neg (by rw [decide_eq_false hr];simp)];by_cases hv:0<=c.value/\c.value<=4294967295
         ·have hK:mg S'.K th t.root c=some (0,sendAt S'.K th c b g y):=by unfold mg findE;simp only [hfind,e3,if_neg hr,if_pos hv,hy];rfl
          rw [hK,if_neg (fun e:c.kind=7/\_=>by omega)];have hA:=h.sendAt hthr hs1 c b g hy;cases hq:S.q.find? (dw b false) with
          | none=>rw [hq] at hA;simp only [if_pos h7];exact ⟨rfl,rfl,hA,trivial⟩
          | some w=>rw [hq] at hA;simp only [if_pos h7];exact ⟨rfl,rfl,hA,trivial⟩
         ·have hK:mg S'.K th t.root c=some (7,S'.K):=by unfold mg findE;simp only [hfind,e3,if_neg hr,if_neg hv];rfl
          rw [hK,if_pos (show c.kind=7/\(c.value<0\/4294967295<c.value) from ⟨h7,by omega⟩)];exact ⟨rfl,rfl,h,rfl⟩
       ·have h8:c.kind=8:=by omega
        have hc8:(if c.kind=8 then (1:Int) else 2)=1:=if_pos h8;have hd7:decide (c.kind≠7)=true:=decide_eq_true h7;have hN:du S'.K th t.root c=(ow S'.K th t.root c).map (fun y=>(0,y.1,y.2)):=by unfold du;rw [if_neg h7,if_pos h8]
        rw [hN,hc8,hd7,ab4 hrt (.inl rfl)];by_cases hr:gp r 1=0
        ·have hK:ow S'.K th t.root c=some (5,S'.K):=by unfold ow findE;simp only [hfind,e3,if_pos hr];rfl
         rw [hK,if_pos (decide_eq_true hr)];exact ⟨rfl,rfl,h,rfl⟩
        ·have hK:ow S'.K th t.root c=some (0,recvAt S'.K th b y):=by unfold ow findE;simp only [hfind,e3,if_neg hr,hy];rfl
         rw [hK,if_neg (by rw [decide_eq_false hr];simp),if_neg (fun e:c.kind=7/\_=>h7 e.1)];have hA:=h.recvAt hthr hs1 b hy;cases hq:S.q.find? (dw b true) with
         | none=>rw [hq] at hA;simp only [if_neg h7];exact ⟨rfl,rfl,hA,trivial⟩
         | some w=>rw [hq] at hA;simp only [if_neg h7];exact ⟨rfl,rfl,hA,trivial⟩
      | _=>
       simp only [KCap.ty] at t1;rw [if_pos (by rw [t1];decide)];have:du S'.K th t.root c=some (0,3,S'.K):=by
        unfold du;split
        ·unfold mg findE;simp only [hfind,e3];rfl
        ·rw [if_pos (by omega)];unfold ow findE;simp only [hfind,e3];rfl
       rw [this];exact ⟨rfl,rfl,h,rfl⟩
     ·rw [if_neg h78];by_cases h910:c.kind=9\/c.kind=10
      ·rw [if_pos h910];have hN:du S'.K th t.root c=if c.kind=9 then (m_ S'.K t.root c).map (fun y=>(y.1,y.2,S'.K)) else (ig S'.K t.root c).map (fun y=>(0,y.1,y.2)):=by
        unfold du;rw [if_neg (by omega),if_neg (by omega)];by_cases h9:c.kind=9
        ·rw [if_pos h9,if_pos h9]
        ·rw [if_neg h9,if_neg h9,if_pos (by omega)]
       unfold lj;cases k with
       | frame b n0 r=>
        have hcap:=h.core.cap _ _ e3;simp only [KCap.base,KCap.bits] at hcap;simp only [KCap.ty,KCap.base,KCap.bits,KCap.told,KCap.rights] at t1 t2 t3 t4 hrt;rw [if_neg (by rw [t1];simp)];rw [t4,t2,t3];by_cases h9:c.kind=9
        ·have h10:¬c.kind=10:=by omega
         have hc:(if c.kind=10 then (2:Int) else 1)=1:=if_neg h10;rw [if_pos h9] at hN;rw [hN,hc,ab4 hrt (.inl rfl)];by_cases hr:gp r 1=0
         ·have hK:m_ S'.K t.root c=some (0,5):=by unfold m_ el;simp only [hfind,e3,if_pos hr];rfl
          rw [hK,if_pos (decide_eq_true hr)];exact ⟨rfl,rfl,h,rfl⟩
         ·rw [if_neg (by rw [decide_eq_false hr];simp)];by_cases ho:c.offset<0\/pw n0.toNat<=c.offset
          ·have hK:m_ S'.K t.root c=some (0,7):=by unfold m_ el;simp only [hfind,e3,if_neg hr,if_pos ho];rfl
           rw [hK,if_pos (Or.inl ho)];exact ⟨rfl,rfl,h,rfl⟩
          ·have hK:m_ S'.K t.root c=some (S'.K.ws (b+c.offset).toNat,0):=by unfold m_ el;simp only [hfind,e3,if_neg hr,if_neg ho];rfl
           rw [hK,if_neg (fun e:(c.offset<0\/pw n0.toNat<=c.offset)\/_=>e.elim ho (fun e=>h10 e.1)),if_pos h9]
           exact ⟨h.ws _ (by omega),rfl,h,rfl⟩
        ·have h10:c.kind=10:=by omega
         have hc:(if c.kind=10 then (2:Int) else 1)=2:=if_pos h10;rw [if_neg h9] at hN;rw [hN,hc,ab4 hrt (.inr rfl)];by_cases hr:gp r 2=0
         ·have hK:ig S'.K t.root c=some (5,S'.K):=by unfold ig el;simp only [hfind,e3,if_pos hr];rfl
          rw [hK,if_pos (decide_eq_true hr)];exact ⟨rfl,rfl,h,rfl⟩
         ·rw [if_neg (by rw [decide_eq_false hr];simp)];by_cases ho:c.offset<0\/pw n0.toNat<=c.offset
          ·have hK:ig S'.K t.root c=some (7,S'.K):=by unfold ig el;simp only [hfind,e3,if_neg hr,if_pos ho];rfl
           rw [hK,if_pos (Or.inl ho)];exact ⟨rfl,rfl,h,rfl⟩
          ·by_cases hv:0<=c.value/\c.value<=4294967295
           ·have hK:ig S'.K t.root c=some (0,{S'.K with ws:=qu S'.K.ws (b+c.offset).toNat c.value}):=by unfold ig el;simp only [hfind,e3,if_neg hr,if_neg ho,if_pos hv];rfl
            rw [hK,if_neg (fun e:(c.offset<0\/pw n0.toNat<=c.offset)\/_=>e.elim ho (fun e=>by omega)),if_neg h9]
            have hC:=h.core;refine ⟨rfl,rfl,⟨⟨⟨hC.rel.cap,hC.rel.emp,hC.rel.tree,hC.rel.nodes,hC.rel.thr⟩,hC.geo,hC.inN,hC.dm,hC.dn,hC.nod,hC.cap,hC.hno,hC.thd,hC.hth,hC.que,hC.hen,hC.nd,hC.td,hC.nb,hC.tb,hC.rt,hC.dap⟩,h.d,fun i hi=>?_,h.q.same rfl (fun _ t g1 g2=>⟨t,g1,g2⟩)⟩,rfl⟩
            show qu S.ws _ _ i=qu S'.K.ws _ _ i;unfold qu;split
            ·rfl
            ·exact h.ws i hi
           ·have hK:ig S'.K t.root c=some (7,S'.K):=by unfold ig el;simp only [hfind,e3,if_neg hr,if_neg ho,if_neg hv];rfl
            rw [hK,if_pos (Or.inr ⟨h10,by omega⟩)];exact ⟨rfl,rfl,h,rfl⟩
       | _=>
        simp only [KCap.ty] at t1;rw [if_pos (by rw [t1];decide)];have hN3:du S'.K th t.root c=some (0,3,S'.K):=by
         rw [hN];split
         ·unfold m_ el;simp only [hfind,e3];rfl
         ·unfold ig el;simp only [hfind,e3];rfl
        rw [hN3];exact ⟨rfl,rfl,h,rfl⟩
      ·rw [if_neg h910];have hN:du S'.K th t.root c=(ue S'.K t.root c).map (fun y=>(0,y.1,y.2)):=by
        unfold du;rw [if_neg (by omega),if_neg (by omega),if_neg (by omega),if_neg (by omega)]
       rw [hN];unfold lc ue;cases k with
       | task b n0 r=>
        simp only [KCap.ty,KCap.base,KCap.told,KCap.rights] at t1 t2 t4 hrt;rw [if_neg (by rw [t1];simp)];rw [t4,t2];simp only [hfind,e3];by_cases hr:gp r 4=0
        ·rw [if_pos ((aa1 hrt).2 hr),if_pos hr];exact ⟨rfl,rfl,h,rfl⟩
        ·rw [if_neg (fun e=>hr ((aa1 hrt).1 e)),if_neg hr]
         have hfind2:=h.core.rel.find t.root c.to;cases hft:bk S.R.L S.R.N t.root c.to with
         | none=>
          rw [hft] at hfind2;simp only [Option.map_none] at hfind2;rw [hfind2];exact ⟨rfl,rfl,h,rfl⟩
         | some q=>
          obtain ⟨n',ix'⟩:=q;rw [hft] at hfind2;simp only [Option.map_some,ta] at hfind2 ⊢;rw [hfind2];rcases h.core.rel.idx n' ix' with ⟨d1,d2⟩ | ⟨p',hp',d1,d2,k',d3,d4⟩
          ·simp only [d1,d2];exact ⟨rfl,rfl,h,trivial⟩
          ·simp only [d1,d3,List.getElem?_eq_getElem hp'];have hrt':=h.core.rt _ _ d3;obtain ⟨u1,u2,u3,u4,_⟩:=ym d4;generalize hE':S.R.L[p']=E' at *
           cases k' with
           | node b' n1 r'=>
            simp only [KCap.ty,KCap.base,KCap.told,KCap.rights] at u1 u2 u4 hrt';rw [if_neg (by rw [u1];simp),u4,u2];simp only;by_cases hr':gp r' 4=0
            ·rw [if_pos ((aa1 hrt').2 hr'),if_pos hr'];exact ⟨rfl,rfl,h,rfl⟩
            ·rw [if_neg (fun e=>hr' ((aa1 hrt').1 e)),if_neg hr']
             obtain ⟨tb,htb⟩:=h.core.hth _ _ _ _ e3;refine ⟨rfl,rfl,⟨h.core.setThr htb (zw b') (fun t=>⟨t.state,b',t.value,t.badge,t.err⟩) (fun _=>rfl) (fun _=>rfl) (by rw [mx htb]),h.d,h.ws,h.q.same rfl (fun x t' g1 g2=>?_)⟩,rfl⟩;by_cases ex:x=b
             ·subst ex;rw [htb] at g1;cases g1
              exact ⟨_,ai _ _ _,by rw [mx htb];exact g2⟩
             ·exact ⟨t',by show upd S'.K.thr b _ x=_;rw [ae _ _ ex];exact g1,g2⟩
           | _=>
            simp only [KCap.ty] at u1;rw [if_pos (by rw [u1];decide)];exact ⟨rfl,rfl,h,rfl⟩
       | _=>
        simp only [KCap.ty] at t1;rw [if_pos (by rw [t1];decide)];simp only [hfind,e3];exact ⟨rfl,rfl,h,trivial⟩
theorem bo4 {S:RS}{S':KS}(h:Ag S S')(th:Int)(c:Cl)(bs:List Bool):
 (ww S th c bs).1=(qg S' th c bs).1/\(ww S th c bs).2.1=(qg S' th c bs).2.1/\Ag (ww S th c bs).2.2 (qg S' th c bs).2.2/\(bs=[]->S.D=[]->(ww S th c bs).2.2.D=[]):=by
 unfold ww qg;by_cases hk:7<=c.kind/\c.kind<=11
 ·rw [if_pos hk,if_pos hk];obtain ⟨h1,h2,h3,h4⟩:=bm2 h th c hk;exact ⟨h1,h2,h3,fun _ e=>by rw [h4];exact e⟩
 ·rw [if_neg hk,if_neg hk];obtain ⟨h1,h2,h3⟩:=bt2 h th c bs (by omega);exact ⟨rfl,h1,h2,h3⟩
theorem bs7 (S:RS)(c:Cl)(e:aw)(h:∀i,0<=S.ws i/\S.ws i<=4294967295)(hk:c.kind=9\/c.kind=10)(i:Nat):0<=(lj S c e).2.2.ws i/\(lj S c e).2.2.ws i<=4294967295:=by
 unfold lj;by_cases h1:e.ty≠5
 ·rw [if_pos h1];exact h i
 rw [if_neg h1];by_cases h2:qc e.rights (if c.kind=10 then 2 else 1)=true
 ·rw [if_pos h2];exact h i
 rw [if_neg h2];by_cases h3:(c.offset<0\/pw e.bits.toNat<=c.offset)\/(c.kind=10/\(c.value<0\/4294967295<c.value))
 ·rw [if_pos h3];exact h i
 rw [if_neg h3];by_cases h4:c.kind=9
 ·rw [if_pos h4];exact h i
 rw [if_neg h4];show 0<=qu S.ws _ c.value i/\qu S.ws _ c.value i<=_;unfold qu;split
 ·omega
 ·exact h i
theorem bp7 (S:RS)(b:Int)(c:Cl)(e:aw):(fw S b c e).2.ws=S.ws:=by
 unfold fw;by_cases h1:e.ty≠3
 ·rw [if_pos h1]
 rw [if_neg h1];by_cases h2:qc e.rights (if c.kind=8 then 1 else 2)=true
 ·rw [if_pos h2]
 rw [if_neg h2];by_cases h3:c.kind=7/\(c.value<0\/4294967295<c.value)
 ·rw [if_pos h3]
 rw [if_neg h3];cases S.q.find? (dw e.base (decide (c.kind≠7)))<;>rfl
theorem bv0 (S:RS)(root:Int)(c:Cl)(e:aw):(lc S root c e).2.ws=S.ws:=by
 unfold lc;split
 ·rfl
 ·split
  ·rfl
  ·split
   ·rfl
   ·split
    ·rfl
    ·split
     ·rfl
     ·split
      ·rfl
      ·split<;>rfl
theorem b04 (S:RS)(b:Int)(c:Cl)(bs:List Bool)(h:∀i,0<=S.ws i/\S.ws i<=4294967295)(i:Nat):0<=(ww S b c bs).2.2.ws i/\(ww S b c bs).2.2.ws i<=4294967295:=by
 unfold ww;split
 ·rename_i hk;unfold ab6;split
  ·exact h i
  ·split
   ·exact h i
   ·split
    ·exact h i
    ·split
     ·exact h i
     ·split
      ·exact h i
      ·split
       ·simp only [bp7];exact h i
       ·split
        ·rename_i hk2;exact bs7 S c _ h hk2 i
        ·simp only [bv0];exact h i
 ·rcases b29 S b c bs i with e | e
  ·simp only [e];exact h i
  ·simp only [e];decide
end Go.Proofs.YtdpjgflemddekaaGreatDoor

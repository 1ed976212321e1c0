/- append, where the old list is looked at again: it holds what it held. Nothing of the program's text. -/
import Derived.Test.YtdpjgflemddekaaGreatDoorMLawB
import Derived.Test.YtdpjgflemddekaaGreatDoorMRefD
set_option maxRecDepth 100000
set_option maxHeartbeats 4000000
namespace Go.Proofs.YtdpjgflemddekaaGreatDoor
open Go.RowKit
section
variable {P:Program} (w:World)
theorem ah7 (t ty:TypeId)(base:Nat)(e:TypeId)(i:TypeInfo)(z:Value)(size bytes:Nat)(ht:P.underlying t=some (.slice e))(hi:P.info? e=some i)(hz:i.zero=some z)
 (hsize:i.size=size) (hby:i.bytes=bytes) (hzs:z.cells.size=size) (hsz:0<size)
 (v:Value) (n:Nat) (xs:List Value) (hown:w.ownsRow base e size v n xs)
 (ad:Addr) (m c:Nat) (news:List Value) (hl:news.length=m*size) (hnews:∀j u,news[j]?=some u->w.cell? (ad.add j)=some u) (h1:∀u∈news,u.oneCell'=true)
 (hm:0<m) (h63:n+m<=maxLen) (hbytes:(n+m)*bytes<=140737488355328) (hbase:base<=w.heap.size) (H:Nat) (hH:w.heap.size=H) :
 ∃g cap w',(Builtin.append_ #[t,t] ty #[v,.slice (some ad) m c]).run P w=.ok (.slice (some ⟨g,0,none⟩) (n+m) cap) w'/\
  w'.ownsRow base e size (.slice (some ⟨g,0,none⟩) (n+m) cap) (n+m) (xs++news)/\w.grownBy w' v.ownBlock/\(v.ownBlock=some g\/g=H)/\g<w'.heap.size/\
  ∀g0 cap0,v=.slice (some ⟨g0,0,none⟩) n cap0->∀j u,xs[j]?=some u->w'.cell? ⟨g0,j,none⟩=some u:=by
 obtain ⟨g,cap,w',hr,h2,h3,h4,h5⟩:=run_append_lies (P:=P) w t ty base e i z size bytes ht hi hz hsize hby hzs hsz v n xs hown ad m c news hl hnews h1 hm h63 hbytes hbase H hH;refine ⟨g,cap,w',hr,h2,h3,h4,h5,?_⟩;rintro g0 cap0 rfl j u hu;subst hsize;subst hby;rcases hown.2 with ⟨h0,_⟩ | ⟨g1,cap1,cur,hv,hbg,hg,hnc,hcm,hcs,htake⟩
 ·cases h0
 ·cases hv
  have hold:∀j u,xs[j]?=some u->w.cell? ((⟨g0,0,none⟩:Addr).add j)=some u:=hown.cells (g:=g0) rfl;by_cases hroom:n+m<=cap0
  ·have hfit:n*i.size+news.length<=cur.size:=by rw [hl,hcs,<- Nat.add_mul];exact Nat.mul_le_mul_right _ hroom
   have hr2:=run_append_room (P:=P) w t ty e i ht hi g0 n cap0 cur hg ad m c news hl hnews h1 hroom hfit;rw [hr] at hr2;have e1:g=g0:=by injection hr2 with e1 e2;injection e1 with e1;cases e1;rfl
   subst e1;have:=h2.cells (g:=g) rfl j u (by rw [List.getElem?_append_left (List.getElem?_eq_some_iff.1 hu).1];exact hu);rw [mp] at this;simpa using this
  ·have hr2:=run_append_grow (P:=P) w t ty e i z ht hi hz ⟨g0,0,none⟩ n cap0 xs hown.1 hold ad m c news hl hnews (by omega) (by simp only [maxLen] at h63;omega) (growslice_fits (by omega) hbytes);rw [hr] at hr2;injection hr2 with _ e2
   have hc:=hold j u hu;rw [mp] at hc;simp only [Nat.zero_add] at hc;rw [e2];exact ((((Fr.refl w (fun _=>False)).drew).alloc _).cell hc id)
theorem r7 {ops:Array Oper}{rest:List Oper}{o:Oper}{a:Act}{Q:Exit->Act->World->Prop}(hgd:o.guard=none)(s x:Operand)(t:TypeId)
 (ho:o.op=.call {callee:=.builtin .append,args:=#[s,x],argTypes:=#[t,t]})
 (base:Nat) (e:TypeId) (i:TypeInfo) (z:Value) (size bytes:Nat) (ht:P.underlying t=some (.slice e)) (hi:P.info? e=some i) (hz:i.zero=some z)
 (hsize:i.size=size) (hby:i.bytes=bytes) (hzs:z.cells.size=size) (hsz:0<size)
 (v:Value) (n:Nat) (xs:List Value) (hs:a.eval s=v) (hown:w.ownsRow base e size v n xs)
 (ad:Addr) (m c:Nat) (news:List Value) (hx:a.eval x=.slice (some ad) m c) (hl:news.length=m*size) (hnews:∀j u,news[j]?=some u->w.cell? (ad.add j)=some u) (h1:∀u∈news,u.oneCell'=true)
 (hm:0<m) (h63:n+m<=maxLen) (hbytes:(n+m)*bytes<=140737488355328) (hbase:base<=w.heap.size) (H:Nat) (hH:w.heap.size=H)
 (h:∀g cap w',w'.ownsRow base e size (.slice (some ⟨g,0,none⟩) (n+m) cap) (n+m) (xs++news)->w.grownBy w' v.ownBlock->(v.ownBlock=some g\/g=H)->g<w'.heap.size->
   (∀g0 cap0,v=.slice (some ⟨g0,0,none⟩) n cap0->∀j u,xs[j]?=some u->w'.cell? ⟨g0,j,none⟩=some u)->wpList P ops Q rest (a.put o.dst (.slice (some ⟨g,0,none⟩) (n+m) cap)) w'):wpList P ops Q (o :: rest) a w:=
 wpList_plain hgd fun _ hK=>by
  obtain ⟨g,cap,w',hr,h2,h3,h4,h5,h6⟩:=ah7 (P:=P) w t o.type base e i z size bytes ht hi hz hsize hby hzs hsz v n xs hown ad m c news hl hnews h1 hm h63 hbytes hbase H hH;unfold Oper.wp execOp;simp only [ho,resolve,invoke,builtin,Sem.run_bind,Sem.run_pure,Result.andThen_ok,List.map_toArray,List.map_cons,List.map_nil,hs,hx,hr];exact hK _ _ (h g cap w' h2 h3 h4 h5 h6)
end
def lx (c:List Value):Nat->List Value
 | 0=>[]
 | n+1=>lx c n++c
theorem pv (c:List Value):∀n,(lx c n).length=n*c.length
 | 0=>by simp [lx]
 | n+1=>by simp [lx,pv c n,Nat.add_mul]
theorem sq (c:List Value):∀(n k j:Nat),k<n->j<c.length->(lx c n)[k*c.length+j]?=c[j]?
 | 0,k,j,hk,_=>absurd hk (by omega)
 | n+1,k,j,hk,hj=>by
  simp only [lx];by_cases e:k=n
  ·subst e;rw [List.getElem?_append_right (by rw [pv];omega),pv];congr 1;omega
  ·have hlt:k*c.length+j<(lx c n).length:=by
    rw [pv];have:(k+1)*c.length<=n*c.length:=Nat.mul_le_mul_right _ (by omega);rw [Nat.add_mul] at this;omega
   rw [List.getElem?_append_left hlt];exact sq c n k j (by omega) hj
theorem az0:(Tryz.prog.info? 43).map (fun i=>(i.zero,i.size,i.bytes))=some (some (.slice none 0 0),1,24):=by kernel_rfl
theorem bn5:(Tryz.prog.info? 67).map (fun i=>(i.zero,i.size,i.bytes))=some (some (.slice none 0 0),1,24):=by kernel_rfl
theorem bz2:(Tryz.prog.info? 116).map (fun i=>(i.zero,i.size,i.bytes))=some (some (.agg #[.int .i64 0,.int .i64 0]),2,16):=by kernel_rfl
structure Fil (w:World)(base:Nat)(t:TypeId)(c:List Value)(v:Value)(n k:Nat):Prop where
 own:∃xs,w.ownsRow base t c.length v n xs/\∀i j,i<k->j<c.length->xs[i*c.length+j]?=c[j]?
theorem Fil.done {w:World}{base:Nat}{t:TypeId}{c:List Value}{v:Value}{n:Nat}(h:Fil w base t c v n n):w.ownsRow base t c.length v n (lx c n):=by
 obtain ⟨xs,h1,h2⟩:=h.own;have:xs=lx c n:=by
  apply List.ext_getElem?;intro p;by_cases hp:p<n*c.length
  ·have hc:0<c.length:=by
    rcases Nat.eq_zero_or_pos c.length with h0 | h0
    ·rw [h0] at hp;omega
    ·exact h0
   have e:p=p / c.length*c.length+p % c.length:=by rw [Nat.mul_comm];exact (Nat.div_add_mod p c.length).symm
   have hd:p / c.length<n:=(Nat.div_lt_iff_lt_mul hc).2 hp;have hm:=Nat.mod_lt p hc;rw [e,h2 _ _ hd hm,sq c n _ _ hd hm]
  ·rw [List.getElem?_eq_none (by rw [h1.1];omega),List.getElem?_eq_none (by rw [pv];omega)]
 rw [<- this];exact h1
theorem bn9 {w:World}{base:Nat}{t:TypeId}{c:List Value}{v:Value}{n:Nat}(h:w.ownsRow base t c.length v n (lx c n))(hn:n<=20000000000000):jb w c v:=by
 obtain ⟨A,cap,hv⟩:=cz h;refine ⟨A,n,cap,hv,hn,fun h0=>?_⟩
 obtain ⟨g,cap',hv',_⟩:=ep h h0;rw [hv] at hv';cases hv'
 refine ⟨g,rfl,fun k j u hk hj=>?_⟩
 have hjl:j<c.length:=(List.getElem?_eq_some_iff.1 hj).1;rw [hv] at h;have:=h.cells (g:=g) rfl (k*c.length+j) u (by rw [sq c n k j hk hjl];exact hj);rw [mp] at this;simpa using this
structure af5 (w:World)(wb:Nat)(U U':co)(j:Nat)(vs:List Value)(X:Nat->Prop)(w':World):Prop where
 out:bz5 w wb U U' X w'
 rl:U'.rl=fun i=>if i=j then U.rl i++vs else U.rl i
theorem xc {xs:List Value}{p q:Nat}{u:Value}(h:q≠p):(xs.set q u)[p]?=xs[p]?:=List.getElem?_set_ne h
theorem ay5 {xs:List Value}{p:Nat}{u:Value}(h:p<xs.length):(xs.set p u)[p]?=some u:=List.getElem?_set_self h
theorem Fil.step10 {w:World}{base g n cap k:Nat}{t:TypeId}{c0 c1 c2 c3 c4 c5 c6 c7 c8 c9:Value}(h:Fil w base t [c0,c1,c2,c3,c4,c5,c6,c7,c8,c9] (.slice (some ⟨g,0,none⟩) n cap) n k)(hk:k<n)
 :
 Fil ((((((((((w.setCell ⟨g,k*10,none⟩ c0).setCell ⟨g,k*10+1,none⟩ c1).setCell ⟨g,k*10+2,none⟩ c2).setCell ⟨g,k*10+3,none⟩ c3).setCell ⟨g,k*10+4,none⟩ c4).setCell ⟨g,k*10+5,none⟩ c5).setCell ⟨g,k*10+6,none⟩ c6).setCell ⟨g,k*10+7,none⟩ c7).setCell ⟨g,k*10+8,none⟩ c8).setCell ⟨g,k*10+9,none⟩ c9)
  base t [c0,c1,c2,c3,c4,c5,c6,c7,c8,c9] (.slice (some ⟨g,0,none⟩) n cap) n (k+1):=by
 obtain ⟨xs,h1,h2⟩:=h.own;have hl:xs.length=n*10:=h1.1;refine ⟨_,eh (eh (eh (eh (eh (eh (eh (eh (eh (eh h1 _ _) _ _) _ _) _ _) _ _) _ _) _ _) _ _) _ _) _ _,?_⟩;intro i j hi hj;show _[i*10+j]?=_;have hj':j<10:=hj;by_cases e:i=k
 ·subst e;have:j=0\/j=1\/j=2\/j=3\/j=4\/j=5\/j=6\/j=7\/j=8\/j=9:=by omega
  rcases this with rfl | rfl | rfl | rfl | rfl | rfl | rfl | rfl | rfl | rfl;all_goals
   repeat rw [xc (by omega)]
   exact ay5 (by (try simp only [List.length_set]);omega)
 ·have h3:=h2 i j (by omega) hj;have hlt:i*10+j<k*10:=by
   have:(i+1)*10<=k*10:=Nat.mul_le_mul_right _ (by omega);omega
  repeat rw [xc (by omega)]
  exact h3
theorem Fil.step2 {w:World}{base g n cap k:Nat}{t:TypeId}{c0 c1:Value}(h:Fil w base t [c0,c1] (.slice (some ⟨g,0,none⟩) n cap) n k)(hk:k<n):
 Fil ((w.setCell ⟨g,k*2,none⟩ c0).setCell ⟨g,k*2+1,none⟩ c1) base t [c0,c1] (.slice (some ⟨g,0,none⟩) n cap) n (k+1):=by
 obtain ⟨xs,h1,h2⟩:=h.own;have hl:xs.length=n*2:=h1.1;refine ⟨_,eh (eh h1 _ _) _ _,?_⟩;intro i j hi hj;show _[i*2+j]?=_;have hj':j<2:=hj;by_cases e:i=k
 ·subst e;have:j=0\/j=1:=by omega
  rcases this with rfl | rfl;all_goals
   repeat rw [xc (by omega)]
   exact ay5 (by (try simp only [List.length_set]);omega)
 ·have h3:=h2 i j (by omega) hj;repeat rw [xc (by omega)]
  exact h3
theorem Fil.at {w:World}{base g n cap k:Nat}{t:TypeId}{c:List Value}(h:Fil w base t c (.slice (some ⟨g,0,none⟩) n cap) n k)(p:Nat)(hp:p<n*c.length):(∃u,w.cell? ⟨g,p,none⟩=some u)/\w.frozen? ⟨g,p,none⟩=false:=by
 obtain ⟨xs,h1,_⟩:=h.own;have hl:xs.length=n*c.length:=h1.1;have:=h1.cells (g:=g) rfl p (xs[p]'(by omega)) (by simp [hl,hp]);rw [mp] at this;refine ⟨⟨_,by simpa using this⟩,?_⟩;rcases h1.2 with ⟨h0,_⟩ | ⟨g',cap',cur,hv,hb,hg,_⟩
 ·cases h0
 ·cases hv;exact ab hg
structure vw (w:World)(wb:Nat)(U:co)(li:Nat)(t:TypeId)(c:List Value)(n nb:Nat)(X:Nat->Prop)(k:Nat)(l:Value)(w':World)(U':co)(vs:List Value):Prop where
 add:af5 w wb U U' li vs X w'
 len:vs.length=k
 row:w'.ownsRow 0 t c.length l (n+k) (lx c (n+k))
 lX:∀b,l.ownBlock=some b->¬U'.fp wb b/\(X b\/w.heap.size<=b)
 fil:∀v∈vs,jb w' c v/\∃A m cap,v=.slice A m cap/\m<=n+k
 nblk:w'.heap[nb]?=some (.cells c.toArray t (0,0))
theorem vw.step {w:World}{wb:Nat}{U:co}{li:Nat}{t:TypeId}{c:List Value}{n nb:Nat}{X:Nat->Prop}{k:Nat}{l:Value}{w':World}{U':co}{vs:List Value}
 (h:vw w wb U li t c n nb X k l w' U' vs) (hli:1<=li/\li<6) (hnb:¬X nb/\nb<w.heap.size/\¬U.fp wb nb) (hn:n+k+1<=20000000000000)
 {nv:Value} {W8:World} (hL8:io W8 wb (U'.add li nv l)) (hF8:Fr w' W8 (U'.fp wb)) (hfp8:∀b,(U'.add li nv l).fp wb b->U'.fp wb b\/w'.heap.size<=b) (hcb8:∀b,(U'.add li nv l).cb b->U'.cb b\/(1<=li/\l.ownBlock=some b))
 {g cap:Nat} {o:Obj} {Y:World} (hown:Y.ownsRow 0 t c.length (.slice (some ⟨g,0,none⟩) (n+k+1) cap) (n+k+1) (lx c (n+k)++c)) (hg:(W8.alloc o).grownBy Y l.ownBlock) (hat:l.ownBlock=some g\/g=W8.heap.size+1)
 (hkeep:∀g0 cap0,l=.slice (some ⟨g0,0,none⟩) (n+k) cap0->∀j u,(lx c (n+k))[j]?=some u->Y.cell? ⟨g0,j,none⟩=some u) :
 vw w wb U li t c n nb X (k+1) (.slice (some ⟨g,0,none⟩) (n+k+1) cap) Y (U'.add li nv l) (vs++[l]):=by
 have hout:=h.add.out;have hFY:Fr W8 Y (fun b=>l.ownBlock=some b):=((Fr.refl W8 (fun b=>l.ownBlock=some b)).alloc _).grown hg (fun r hr=>.inl hr);have hsz:=hF8.size;have hszw:=hout.fr.size;have hlfp:∀b,l.ownBlock=some b->¬(U'.add li nv l).fp wb b:=by
  intro b hb hf;rcases hfp8 b hf with h1 | h1
  ·exact (h.lX b hb).1 h1
  ·have:=(h.row.lt b hb).2;omega
 have hLY:io Y wb (U'.add li nv l):=hL8.frame hFY (fun b hb hx=>hlfp b hx hb);have hmem:∀v∈vs++[l],∀b,an4 v=some b->(U'.add li nv l).cb b:=by
  intro v hv b hb;refine ⟨li,v,hli.1,hli.2,?_,hb⟩;simp only [co.add,if_true,List.mem_append,List.mem_singleton];rcases List.mem_append.1 hv with h1 | h1
  ·left;have:U'.rl li=U.rl li++vs:=by rw [h.add.rl];simp
   rw [this];exact List.mem_append.2 (.inr h1)
  ·right;simpa using h1
 refine ⟨⟨⟨hLY,?_,?_,?_⟩,?_⟩,?_,hown,?_,?_,?_⟩
 ·refine (hout.fr.step hF8 (fun b hb=>(hout.fp b hb).imp (fun h1=>.inl h1) id)).step hFY (fun b hb=>?_)
  rcases (h.lX b hb).2 with h1 | h1
  ·exact .inl (.inr h1)
  ·exact .inr h1
 ·intro b hb;rcases hfp8 b hb with h1 | h1
  ·exact hout.fp b h1
  ·exact .inr (Nat.le_trans hszw h1)
 ·intro b hb;rcases hcb8 b hb with h1 | ⟨_,h1⟩
  ·exact hout.cb b h1
  ·exact .inr ((h.lX b h1).2)
 ·rw [co.add,h.add.rl];funext i;dsimp only;by_cases e:i=li
  ·simp [e]
  ·simp [e]
 ·simp [h.len]
 ·intro b hb;cases hb
  refine ⟨?_,?_⟩
  ·rcases hat with e | e
   ·exact hlfp g e
   ·intro hf;have:g<W8.heap.size:=hL8.lt hf;omega
  ·rcases hat with e | e
   ·exact (h.lX g e).2
   ·right;show w.heap.size<=g;omega
 ·-- the lists that were kept
  have hl9:∀v A m cap',v=.slice A m cap'->m<=n+k->jb W8 c v->jb Y c v:=by
   intro v A m cap' hv hm hfv;by_cases hb:∃b,v.ownBlock=some b/\l.ownBlock=some b
   ·obtain ⟨b,hb1,hb2⟩:=hb;refine ⟨A,m,cap',hv,by omega,fun h0=>?_⟩
    obtain ⟨A',m',cap2,hv2,_,hA'⟩:=hfv;rw [hv] at hv2;cases hv2
    obtain ⟨g1,rfl,hc1⟩:=hA' h0;refine ⟨g1,rfl,fun i j u hi hj=>?_⟩
    rw [hv] at hb1;cases hb1
    obtain ⟨gl,capl,hlv,_⟩:=ep h.row (by omega);rw [hlv] at hb2;cases hb2
    have hjl:j<c.length:=(List.getElem?_eq_some_iff.1 hj).1;exact hkeep _ _ hlv (i*c.length+j) u (by rw [sq c (n+k) i j (by omega) hjl];exact hj)
   ·exact hfv.frame hFY (fun b hb1 hb2=>hb ⟨b,ae4 hb1,hb2⟩)
  intro v hv;rcases List.mem_append.1 hv with h1 | h1
  ·obtain ⟨hfv,A,m,cap',hv',hm⟩:=h.fil v h1;have hfv8:jb W8 c v:=hfv.frame hF8 (fun b hb hx=>hout.at_.cont b ⟨li,v,hli.1,hli.2,by rw [h.add.rl];simp [h1],hb⟩ hx);exact ⟨hl9 v A m cap' hv' hm hfv8,A,m,cap',hv',by omega⟩
  ·simp only [List.mem_singleton] at h1;subst h1;obtain ⟨A,cap',hv'⟩:=cz h.row;have hfl8:jb W8 c v:=(bn9 h.row (by omega)).frame hF8 (fun b hb hx=>(h.lX b (ae4 hb)).1 hx)
   exact ⟨hl9 v A _ cap' hv' (Nat.le_refl _) hfl8,A,_,cap',hv',by omega⟩
 ·refine hFY.same (hF8.same h.nblk (fun hx=>?_)) (fun hx=>?_)
  ·rcases hout.fp nb hx with h1 | h1
   ·exact hnb.2.2 h1
   ·omega
  ·rcases (h.lX nb hx).2 with h1 | h1
   ·exact hnb.1 h1
   ·omega
theorem bj0 (wb:Nat)(U:co)(w:World)(hL:io w wb U)(lv:Value)(n:Nat)(xs:List Value)(hrow:w.ownsRow 0 48 10 lv n xs)(hX:∀k,lv.ownBlock=some k->¬U.fp wb k)(hn:n<=20000)(hlen:(U.rl 1).length<=5000000000000):
 Calls Tryz.prog 53 #[.pointer (some ⟨wb,0,none⟩),lv] w fun e w'=>e=.returned (.tuple #[])/\∃U' vs,vs.length=4/\af5 w wb U U' 1 vs (fun k=>lv.ownBlock=some k) w'/\∀v∈vs,jb w' (oj (-1-((U.rl 1).length:Int))) v:=by
 obtain ⟨i0,hi0,hz0,hz1,hz2⟩:=info_parts az0;obtain ⟨i1,hi1,hy0,hy1,hy2⟩:=info_parts am5;obtain ⟨A,cap,hlv⟩:=cz hrow;obtain ⟨A1,cap1,hrv,c1,r1⟩:=hL.at 1 (by omega);have s1:wb<w.heap.size:=World.block_lt_of_cell? _ _ c1;have hfil0:Fil w 0 48 (oj (-1-((U.rl 1).length:Int))) lv n 0:=⟨xs,hrow,fun i j hi=>absurd hi (by omega)⟩
 subst hlv;clear r1 hrv;go_enter Tryz.func53,Tryz.ntmps53
 go_wp2;generalize hW1:w.alloc _=W1;have hF1:Fr w W1 (fun _=>False):=by rw [<- hW1];exact (Fr.refl _ _).alloc _
 have hb4:W1.heap[w.heap.size]?=some (.cells #[.int .i64 (-1-((U.rl 1).length:Int)),.int .i64 0,.int .i64 0,.int .i64 0,.int .i64 0,.int .i64 0,.int .i64 0,.int .i64 0,.int .i64 0,.int .i64 0] 48 (0,0)):=by rw [<- hW1];exact heap_alloc_new _ _
 clear hW1 c1;have hfil1:Fil W1 0 48 (oj (-1-((U.rl 1).length:Int))) (.slice A n cap) n 0:=by
  obtain ⟨ys,h1,h2⟩:=hfil0.own;exact ⟨ys,hF1.owns h1 (fun _ _=>id),h2⟩
 have hn4:(Value.slice A n cap).ownBlock≠some w.heap.size:=fun e=>by have:=(hrow.lt _ e).2;omega
 have hs1:w.heap.size<W1.heap.size:=(Array.getElem?_eq_some_iff.1 hb4).1;have hL1:io W1 wb U:=hL.frame hF1 (fun _ _=>id);have hnf:¬U.fp wb w.heap.size:=fun e=>by have:=hL.lt e;omega
 have s2:wb≠w.heap.size:=by omega
 clear hfil0;go_loopw [5] (fun i w'=>Fr W1 w' (fun k=>(Value.slice A n cap).ownBlock=some k)/\∃k:Nat,k<=n/\i=.int .i64 k/\Fil w' 0 48 (oj (-1-((U.rl 1).length:Int))) (.slice A n cap) n k) (fun i _=>n-(intOf i).toNat)
 case atStart=>exact ⟨Fr.refl _ _,0,Nat.zero_le _,rfl,hfil1⟩
 case round=>
  obtain ⟨hF,k,hk,rfl,hfil⟩:=hrel;have hb5:=hF.same hb4 hn4;clear hfil1;by_cases hlt:k<n
  ·obtain ⟨g,cap',hv',_⟩:=ep hrow (by omega);cases hv'
   obtain ⟨z0,z1,z2,z3,z4,z5,z6,z7,z8,z9⟩:=w_ hb5;obtain ⟨⟨u0,p0⟩,q0⟩:=hfil.at (k*10) (by show _<n*10;omega);obtain ⟨⟨u1,p1⟩,q1⟩:=hfil.at (k*10+1) (by show _<n*10;omega);obtain ⟨⟨u2,p2⟩,q2⟩:=hfil.at (k*10+2) (by show _<n*10;omega);obtain ⟨⟨u3,p3⟩,q3⟩:=hfil.at (k*10+3) (by show _<n*10;omega);obtain ⟨⟨u4,p4⟩,q4⟩:=hfil.at (k*10+4) (by show _<n*10;omega);obtain ⟨⟨u5,p5⟩,q5⟩:=hfil.at (k*10+5) (by show _<n*10;omega);obtain ⟨⟨u6,p6⟩,q6⟩:=hfil.at (k*10+6) (by show _<n*10;omega);obtain ⟨⟨u7,p7⟩,q7⟩:=hfil.at (k*10+7) (by show _<n*10;omega);obtain ⟨⟨u8,p8⟩,q8⟩:=hfil.at (k*10+8) (by show _<n*10;omega);obtain ⟨⟨u9,p9⟩,q9⟩:=hfil.at (k*10+9) (by show _<n*10;omega);have hgn:g≠w.heap.size:=fun e=>hn4 (by rw [e];rfl)
   go_wp2;go_roundw;case rel=>
    refine ⟨?_,k+1,by omega,by go_num,hfil.step10 hlt⟩;exact (Fr.setCell (Fr.setCell (Fr.setCell (Fr.setCell (Fr.setCell (Fr.setCell (Fr.setCell (Fr.setCell (Fr.setCell (Fr.setCell hF (.inl rfl) _ _) (.inl rfl) _ _) (.inl rfl) _ _) (.inl rfl) _ _) (.inl rfl) _ _) (.inl rfl) _ _) (.inl rfl) _ _) (.inl rfl) _ _) (.inl rfl) _ _) (.inl rfl) _ _)
   case measure=>simp [intOf];omega
  ·obtain rfl:k=n:=by omega
   have hrow2:=hfil.done;have hinv0:vw W1 wb U 1 48 (oj (-1-((U.rl 1).length:Int))) k w.heap.size (fun b=>(Value.slice A k cap).ownBlock=some b) 0 (.slice A k cap) wr U []:=by
    refine ⟨⟨⟨hL1.frame hF (fun b hb hx=>hX b hx hb),hF.mono (fun b hb=>.inr hb),fun b hb=>.inl hb,fun b hb=>.inl hb⟩,?_⟩,rfl,hrow2,fun b hb=>⟨hX b hb,.inl hb⟩,fun v hv=>absurd hv (by simp),hb5⟩
    funext i;by_cases e:i=1<;>simp [e]
   clear hfil hrow2 hb5 hF;go_wp2;go_loopw [6,1] (fun i l w'=>∃(m:Nat) (U':co) (vs:List Value),m<=4/\i=.int .i64 m/\vw W1 wb U 1 48 (oj (-1-((U.rl 1).length:Int))) k w.heap.size (fun b=>(Value.slice A k cap).ownBlock=some b) m l w' U' vs) (fun i _ _=>4-(intOf i).toNat)
   case atStart=>exact ⟨0,U,[],by omega,rfl,hinv0⟩
   case round=>
    obtain ⟨m,U',vs,hm,rfl,hI⟩:=hrel;clear hinv0;by_cases hlt4:m<4
    ·have hout:=hI.add.out;have hrl:U'.rl 1=U.rl 1++vs:=by rw [hI.add.rl];simp
     have hll:(U'.rl 1).length<=5000000000004:=by rw [hrl,List.length_append,hI.len];omega
     clear hrl;have cc:wr.cell? ⟨wb,1,none⟩=some (U'.rv 1):=aa hout.at_.blk rfl;have oo:wr.ownsRow 0 43 1 (U'.rv 1) (U'.rl 1).length (U'.rl 1):=hout.at_.row 1 (by omega);have sw:wb<wr.heap.size:=World.block_lt_of_cell? _ _ cc;have hlv1:u1.oneCell'=true:=by obtain ⟨A9,cap9,e9⟩:=cz hI.row;rw [e9];rfl
     obtain ⟨A9,cap9,e9⟩:=cz hI.row;subst e9;go_upto_region 9 with (at_builtin;go_must (refine wpList_append_lies _ rfl _ _ 25 rfl 0 43 i0 _ 1 24 Tryz.underlying25 hi0 hz0 hz1 hz2 rfl (by decide) _ _ _ rfl (World.ownsRow.alloc oo _) ⟨_,0,none⟩ 1 1 [.slice A9 (k+m) cap9] rfl rfl (dg _ _ _) (by simp [Value.oneCell']) (by decide) (by unfold maxLen;omega) (by omega) (Nat.zero_le _) (wr.heap.size+1) (by simp) ?_))
     intro g5 cap5 Y5 hown5 hg5 hat5 hlt5;obtain ⟨d5,z5,hL5,hf5,hfp5,hcb5⟩:=hout.at_.add (j:=1) (by omega) hg5 hown5 hat5 (fun _ b hb=>⟨(hI.lX b hb).1,(hI.row.lt b hb).2⟩)
     clear hown5 hg5 hat5 hlt5 cc oo;go_upto_region 9 with fail
     generalize hgen:Y5.setCell ⟨wb,1,none⟩ (.slice (some ⟨g5,0,none⟩) ((U'.rl 1).length+1) cap5)=W8 at *
     clear hgen d5 z5;have hnbx:¬U'.fp wb w.heap.size:=fun e=>by
      rcases hout.fp _ e with h1 | h1
      ·exact hnf h1
      ·omega
     have nb8:W8.heap[w.heap.size]?=some (.cells #[.int .i64 (-1-((U.rl 1).length:Int)),.int .i64 0,.int .i64 0,.int .i64 0,.int .i64 0,.int .i64 0,.int .i64 0,.int .i64 0,.int .i64 0,.int .i64 0] 48 (0,0)):=hf5.same hI.nblk hnbx;have row8:=hf5.owns hI.row (fun b hb hx=>(hI.lX b hb).1 hx)
     obtain ⟨z0,z1,z2,z3,z4,z5,z6,z7,z8,z9⟩:=w_ nb8;have sn:w.heap.size<W8.heap.size:=(Array.getElem?_eq_some_iff.1 nb8).1;go_wp2_with (at_builtin;go_must (refine r7 _ rfl _ _ 43 rfl 0 48 i1 _ 10 80 Tryz.underlying43 hi1 hy0 hy1 hy2 rfl (by decide) _ _ _ rfl (World.ownsRow.alloc row8 _) ⟨_,0,none⟩ 1 1 (oj (-1-((U.rl 1).length:Int))) rfl rfl (dg _ _ _) (by unfold oj;simp [Value.oneCell']) (by decide) (by unfold maxLen;omega) (by omega) (Nat.zero_le _) (W8.heap.size+1) (by simp) ?_))
     intro g9 cap9' Y9 hown9 hg9 hat9 hlt9 hkeep9;have hI9:=hI.step ⟨by omega,by omega⟩ ⟨hn4,hs1,hnf⟩ (by omega) hL5 hf5 hfp5 hcb5 hown9 hg9 hat9 (fun g0 cap0 e=>hkeep9 g0 (by injection e))
     clear hown9 hg9 hat9 hkeep9 hL5 hf5 hfp5 hcb5 hI hout row8 nb8;go_wp2;go_roundw;case rel=>exact ⟨m+1,_,_,by omega,by go_num,hI9⟩
     case measure=>simp [intOf];omega
    ·obtain rfl:m=4:=by omega
     go_wp2;go_end0;have ho:=hI.add.out;refine ⟨rfl,U',vs,hI.len,⟨⟨ho.at_,(hF1.mono (fun _=>False.elim)).step ho.fr (fun b hb=>.inl hb),fun b hb=>(ho.fp b hb).imp id (fun h=>by omega),fun b hb=>?_⟩,hI.add.rl⟩,fun v hv=>(hI.fil v hv).1⟩
     rcases ho.cb b hb with h1 | h1 | h1
     ·exact .inl h1
     ·exact .inr (.inl h1)
     ·exact .inr (.inr (by omega))
theorem bl5 (wb:Nat)(U:co)(w:World)(hL:io w wb U)(lv:Value)(n:Nat)(xs:List Value)(hrow:w.ownsRow 0 116 2 lv n xs)(hX:∀k,lv.ownBlock=some k->¬U.fp wb k)(hn:n<=20000)(hlen:(U.rl 2).length<=5000000000000):
 Calls Tryz.prog 55 #[.pointer (some ⟨wb,0,none⟩),lv] w fun e w'=>e=.returned (.tuple #[])/\∃U' vs,vs.length=4/\af5 w wb U U' 2 vs (fun k=>lv.ownBlock=some k) w'/\∀v∈vs,jb w' (lp (-1-((U.rl 2).length:Int))) v:=by
 obtain ⟨i0,hi0,hz0,hz1,hz2⟩:=info_parts bn5;obtain ⟨i1,hi1,hy0,hy1,hy2⟩:=info_parts bz2;obtain ⟨A,cap,hlv⟩:=cz hrow;obtain ⟨A1,cap1,hrv,c1,r1⟩:=hL.at 2 (by omega);have s1:wb<w.heap.size:=World.block_lt_of_cell? _ _ c1;have hfil0:Fil w 0 116 (lp (-1-((U.rl 2).length:Int))) lv n 0:=⟨xs,hrow,fun i j hi=>absurd hi (by omega)⟩
 subst hlv;clear r1 hrv;go_enter Tryz.func55,Tryz.ntmps55
 go_wp2;generalize hW1:w.alloc _=W1;have hF1:Fr w W1 (fun _=>False):=by rw [<- hW1];exact (Fr.refl _ _).alloc _
 have hb4:W1.heap[w.heap.size]?=some (.cells #[.int .i64 (-1-((U.rl 2).length:Int)),.int .i64 0] 116 (0,0)):=by rw [<- hW1];exact heap_alloc_new _ _
 clear hW1 c1;have hfil1:Fil W1 0 116 (lp (-1-((U.rl 2).length:Int))) (.slice A n cap) n 0:=by
  obtain ⟨ys,h1,h2⟩:=hfil0.own;exact ⟨ys,hF1.owns h1 (fun _ _=>id),h2⟩
 have hn4:(Value.slice A n cap).ownBlock≠some w.heap.size:=fun e=>by have:=(hrow.lt _ e).2;omega
 have hs1:w.heap.size<W1.heap.size:=(Array.getElem?_eq_some_iff.1 hb4).1;have hL1:io W1 wb U:=hL.frame hF1 (fun _ _=>id);have hnf:¬U.fp wb w.heap.size:=fun e=>by have:=hL.lt e;omega
 have s2:wb≠w.heap.size:=by omega
 clear hfil0;go_loopw [5] (fun i w'=>Fr W1 w' (fun k=>(Value.slice A n cap).ownBlock=some k)/\∃k:Nat,k<=n/\i=.int .i64 k/\Fil w' 0 116 (lp (-1-((U.rl 2).length:Int))) (.slice A n cap) n k) (fun i _=>n-(intOf i).toNat)
 case atStart=>exact ⟨Fr.refl _ _,0,Nat.zero_le _,rfl,hfil1⟩
 case round=>
  obtain ⟨hF,k,hk,rfl,hfil⟩:=hrel;have hb5:=hF.same hb4 hn4;clear hfil1;by_cases hlt:k<n
  ·obtain ⟨g,cap',hv',_⟩:=ep hrow (by omega);cases hv'
   have z0:=aa (o:=0) hb5 rfl;have z1:=aa (o:=1) hb5 rfl;obtain ⟨⟨u0,p0⟩,q0⟩:=hfil.at (k*2) (by show _<n*2;omega);obtain ⟨⟨u1,p1⟩,q1⟩:=hfil.at (k*2+1) (by show _<n*2;omega);have hgn:g≠w.heap.size:=fun e=>hn4 (by rw [e];rfl)
   go_wp2;go_roundw;case rel=>
    refine ⟨?_,k+1,by omega,by go_num,hfil.step2 hlt⟩;exact (Fr.setCell (Fr.setCell hF (.inl rfl) _ _) (.inl rfl) _ _)
   case measure=>simp [intOf];omega
  ·obtain rfl:k=n:=by omega
   have hrow2:=hfil.done;have hinv0:vw W1 wb U 2 116 (lp (-1-((U.rl 2).length:Int))) k w.heap.size (fun b=>(Value.slice A k cap).ownBlock=some b) 0 (.slice A k cap) wr U []:=by
    refine ⟨⟨⟨hL1.frame hF (fun b hb hx=>hX b hx hb),hF.mono (fun b hb=>.inr hb),fun b hb=>.inl hb,fun b hb=>.inl hb⟩,?_⟩,rfl,hrow2,fun b hb=>⟨hX b hb,.inl hb⟩,fun v hv=>absurd hv (by simp),hb5⟩
    funext i;by_cases e:i=2<;>simp [e]
   clear hfil hrow2 hb5 hF;go_wp2;go_loopw [6,1] (fun i l w'=>∃(m:Nat) (U':co) (vs:List Value),m<=4/\i=.int .i64 m/\vw W1 wb U 2 116 (lp (-1-((U.rl 2).length:Int))) k w.heap.size (fun b=>(Value.slice A k cap).ownBlock=some b) m l w' U' vs) (fun i _ _=>4-(intOf i).toNat)
   case atStart=>exact ⟨0,U,[],by omega,rfl,hinv0⟩
   case round=>
    obtain ⟨m,U',vs,hm,rfl,hI⟩:=hrel;clear hinv0;by_cases hlt4:m<4
    ·have hout:=hI.add.out;have hrl:U'.rl 2=U.rl 2++vs:=by rw [hI.add.rl];simp
     have hll:(U'.rl 2).length<=5000000000004:=by rw [hrl,List.length_append,hI.len];omega
     clear hrl;have cc:wr.cell? ⟨wb,2,none⟩=some (U'.rv 2):=aa hout.at_.blk rfl;have oo:wr.ownsRow 0 67 1 (U'.rv 2) (U'.rl 2).length (U'.rl 2):=hout.at_.row 2 (by omega);have sw:wb<wr.heap.size:=World.block_lt_of_cell? _ _ cc;have hlv1:u1.oneCell'=true:=by obtain ⟨A9,cap9,e9⟩:=cz hI.row;rw [e9];rfl
     obtain ⟨A9,cap9,e9⟩:=cz hI.row;subst e9;go_upto_region 9 with (at_builtin;go_must (refine wpList_append_lies _ rfl _ _ 26 rfl 0 67 i0 _ 1 24 Tryz.underlying26 hi0 hz0 hz1 hz2 rfl (by decide) _ _ _ rfl (World.ownsRow.alloc oo _) ⟨_,0,none⟩ 1 1 [.slice A9 (k+m) cap9] rfl rfl (dg _ _ _) (by simp [Value.oneCell']) (by decide) (by unfold maxLen;omega) (by omega) (Nat.zero_le _) (wr.heap.size+1) (by simp) ?_))
     intro g5 cap5 Y5 hown5 hg5 hat5 hlt5;obtain ⟨d5,z5,hL5,hf5,hfp5,hcb5⟩:=hout.at_.add (j:=2) (by omega) hg5 hown5 hat5 (fun _ b hb=>⟨(hI.lX b hb).1,(hI.row.lt b hb).2⟩)
     clear hown5 hg5 hat5 hlt5 cc oo;go_upto_region 9 with fail
     generalize hgen:Y5.setCell ⟨wb,2,none⟩ (.slice (some ⟨g5,0,none⟩) ((U'.rl 2).length+1) cap5)=W8 at *
     clear hgen d5 z5;have hnbx:¬U'.fp wb w.heap.size:=fun e=>by
      rcases hout.fp _ e with h1 | h1
      ·exact hnf h1
      ·omega
     have nb8:W8.heap[w.heap.size]?=some (.cells #[.int .i64 (-1-((U.rl 2).length:Int)),.int .i64 0] 116 (0,0)):=hf5.same hI.nblk hnbx;have row8:=hf5.owns hI.row (fun b hb hx=>(hI.lX b hb).1 hx)
     have z0:=aa (o:=0) nb8 rfl;have z1:=aa (o:=1) nb8 rfl;have sn:w.heap.size<W8.heap.size:=(Array.getElem?_eq_some_iff.1 nb8).1;go_wp2_with (at_builtin;go_must (refine r7 _ rfl _ _ 67 rfl 0 116 i1 _ 2 16 Tryz.underlying67 hi1 hy0 hy1 hy2 rfl (by decide) _ _ _ rfl (World.ownsRow.alloc row8 _) ⟨_,0,none⟩ 1 1 (lp (-1-((U.rl 2).length:Int))) rfl rfl (dg _ _ _) (by unfold lp;simp [Value.oneCell']) (by decide) (by unfold maxLen;omega) (by omega) (Nat.zero_le _) (W8.heap.size+1) (by simp) ?_))
     intro g9 cap9' Y9 hown9 hg9 hat9 hlt9 hkeep9;have hI9:=hI.step ⟨by omega,by omega⟩ ⟨hn4,hs1,hnf⟩ (by omega) hL5 hf5 hfp5 hcb5 hown9 hg9 hat9 (fun g0 cap0 e=>hkeep9 g0 (by injection e))
     clear hown9 hg9 hat9 hkeep9 hL5 hf5 hfp5 hcb5 hI hout row8 nb8;go_wp2;go_roundw;case rel=>exact ⟨m+1,_,_,by omega,by go_num,hI9⟩
     case measure=>simp [intOf];omega
    ·obtain rfl:m=4:=by omega
     go_wp2;go_end0;have ho:=hI.add.out;refine ⟨rfl,U',vs,hI.len,⟨⟨ho.at_,(hF1.mono (fun _=>False.elim)).step ho.fr (fun b hb=>.inl hb),fun b hb=>(ho.fp b hb).imp id (fun h=>by omega),fun b hb=>?_⟩,hI.add.rl⟩,fun v hv=>(hI.fil v hv).1⟩
     rcases ho.cb b hb with h1 | h1 | h1
     ·exact .inl h1
     ·exact .inr (.inl h1)
     ·exact .inr (.inr (by omega))
end Go.Proofs.YtdpjgflemddekaaGreatDoor

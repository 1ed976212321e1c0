/- The keys of the code's maps: slots, and numbers. -/
import Derived.Test.YtdpjgflemddekaaGreatDoorChecked
import Derived.Test.YtdpjgflemddekaaGreatDoorMRelA
namespace Go.Proofs.YtdpjgflemddekaaGreatDoor
open Go.RowKit
theorem be6 (e:Bool)(k:Slot)(w:World):(Instr.checkKey e 10000 71 k.val).run Tryz.prog w=.ok () w:=by
 kernel_rfl
theorem bd2 (w:World)(k:Slot):(Instr.keyThatStays k.val k.val).run Tryz.prog w=.ok k.val w:=by
 have:Instr.sameBits 10000 k.val k.val=true:=by simp [Slot.val,Instr.sameBits]
 simp [Instr.keyThatStays,this]
theorem aq3 (a b:Slot)(w:World):(Op.equal 71 a.val b.val).run Tryz.prog w=.ok (decide (a=b)) w:=by
 have h1:Tryz.prog.stoodInHeld 71=false:=by kernel_rfl
 have e:a=b ↔ a.node=b.node/\a.index=b.index:=by cases a;cases b;simp
 simp only [Op.equal,Op.maxDepth,Slot.val];by_cases h:a.node=b.node<;>by_cases h2:a.index=b.index<;>
 simp [go_sem,run_equalIn_agg,Tryz.underlying71,h1,h,h2,e]
theorem bl6 (w:World)(k:Slot)(es:List MapEntry)(h:∀x∈es,∃a:Slot,x.key=a.val):
 ((Instr.findKey 71 k.val es).run Tryz.prog w=.ok none w/\∀x∈es,x.key≠k.val)\/
 ∃j e0,(Instr.findKey 71 k.val es).run Tryz.prog w=.ok (some (j,e0.val)) w/\es[j]?=some e0/\e0.key=k.val:=by
 cases es with
 | nil=>exact .inl ⟨by simp [Instr.findKey,run_underlying Tryz.underlying71,Instr.findNow],by simp⟩
 | cons e es=>
  have h0:∀fs,Instr.findNow (.struct fs) k.val (e :: es) 0=none:=fun fs=>by simp [Instr.findNow,Instr.sameNow]
  have h1:(Instr.findKey 71 k.val (e :: es)).run Tryz.prog w=(Instr.findAsking 71 k.val (e :: es) 0).run Tryz.prog w:=by
   simp [Instr.findKey,run_underlying Tryz.underlying71,h0]
  rw [h1];rcases wj aq3 Slot.val_inj w k (e :: es) 0 h with r | ⟨j,e0,r1,r2,r3⟩
  ·exact .inl r
  ·exact .inr ⟨j,e0,by simpa using r1,r2,r3⟩
theorem em:ad1 Tryz.prog 71 Slot.val:=⟨Slot.val_inj,be6,bl6,bd2⟩
theorem ku:ad1 Tryz.prog 3 ke:=by
 refine ⟨fun a b h=>by simpa [ke] using h,fun e k w=>by kernel_rfl,?_,?_⟩
 ·intro w k es h;have hk:MapKept.IsKey (.int .i64) (ke k):=by simp [ke,MapKept.IsKey]
  rcases MapKept.findNow_spec hk es 0 (fun x hx=>by obtain ⟨a,ha⟩:=h x hx;rw [ha];simp [ke,MapKept.IsKey]) with ⟨h1,h2⟩ | ⟨j,e0,h1,h2,h3⟩
  ·exact .inl ⟨by simp [Instr.findKey,run_underlying Tryz.underlying3,h1],h2⟩
  ·exact .inr ⟨j,e0,by simp [Instr.findKey,run_underlying Tryz.underlying3,h1],h2,h3⟩
 ·intro w k;have:Instr.sameBits 10000 (ke k) (ke k)=true:=by simp [ke,Instr.sameBits]
  simp [Instr.keyThatStays,this]
theorem Fr.set1 (w:World)(b o:Nat)(v:Value):Fr w (w.setCell ⟨b,o,none⟩ v) (fun k=>k=b):=Fr.setCell (S:=fun k=>k=b) (Fr.refl _ _) (.inl rfl) _ _
def KCap.val:KCap->Value
 | .untyped b n m=>.iface 76 (.agg #[.int .i64 b,.int .i64 n,.int .i64 m])
 | .node b n r=>.iface 119 (.agg #[.int .i64 b,.int .i64 n,.int .i64 r])
 | .endpoint b n r g=>.iface 122 (.agg #[.int .i64 b,.int .i64 n,.int .i64 r,.int .i64 g])
 | .task b n r=>.iface 127 (.agg #[.int .i64 b,.int .i64 n,.int .i64 r])
 | .frame b n r=>.iface 128 (.agg #[.int .i64 b,.int .i64 n,.int .i64 r])
def oz.val (t:oz):Value:=.agg #[.int .i64 t.state,.int .i64 t.root,.int .i64 t.value,.int .i64 t.badge,.int .i64 t.err]
structure bj where
 parent:Slot
 kids:List Slot
 sv:Value
def bj.val (x:bj):Value:=.agg #[.int .i64 x.parent.node,.int .i64 x.parent.index,x.sv]
def bj.std (x:bj):nw:=⟨x.parent,x.kids⟩
def Slot.vals (s:Slot):List Value:=[.int .i64 s.node,.int .i64 s.index]
def bo (l:List Slot):List Value:=l.flatMap Slot.vals
theorem Slot.vals_len (s:Slot):s.vals.length=2:=rfl
theorem Slot.one (a:Slot):∀u∈a.vals,u.oneCell'=true:=by intro u hu;simp [Slot.vals] at hu;rcases hu with rfl | rfl<;>rfl
theorem ff (a b:List Slot):bo (a++b)=bo a++bo b:=by simp [bo]
theorem rr (a:List Slot):(bo a).length=a.length*2:=by induction a with
 | nil=>rfl
 | cons x a ih=>simp only [bo,List.flatMap_cons,List.length_append,Slot.vals_len,List.length_cons] at ih ⊢;omega
def cx (M:List (Slot×bj)):Slot->Option nw:=fun s=>(am s M).map bj.std
theorem ru (M:List (Slot×bj))(k:Slot)(x:bj):cx (putM k x M)=upd (cx M) k (some x.std):=by
 funext s;simp only [cx,g_,upd,eq_comm];split<;>simp
theorem a02 (M:List (Slot×bj))(k:Slot)(h:(M.map Prod.fst).Nodup):cx (j3 k M)=upd (cx M) k none:=by
 funext s;simp only [cx,j9 k s M h,upd,eq_comm];split<;>simp
structure bg (w:World)(b:Nat)(M:List (Slot×bj)):Prop where
 map:ei w b Slot.val bj.val M
 own:∀s x,am s M=some x->w.ownsRow 0 71 2 x.sv x.kids.length (bo x.kids)
 len:∀s x,am s M=some x->x.kids.length<=1000000
 apart:∀s x s' x',am s M=some x->am s' M=some x'->s≠s'->∀k,x.sv.ownBlock=some k->x'.sv.ownBlock≠some k
def br (b:Nat)(M:List (Slot×bj))(k:Nat):Prop:=k=b\/∃s x,am s M=some x/\x.sv.ownBlock=some k
theorem bg.fpLt {w:World}{b:Nat}{M:List (Slot×bj)}(h:bg w b M){k:Nat}(hk:br b M k):k<w.heap.size:=by
 rcases hk with rfl | ⟨s,x,h1,h2⟩
 ·exact h.map.lt
 ·exact ((h.own s x h1).lt k h2).2
theorem bg.frame {w w':World}{b:Nat}{M:List (Slot×bj)}{S:Nat->Prop}(h:bg w b M)(hf:Fr w w' S)(hs:∀k,br b M k->¬S k):bg w' b M:=
 ⟨h.map.frame hf (hs b (.inl rfl)),fun s x hx=>hf.owns (h.own s x hx) (fun k hk=>hs k (.inr ⟨s,x,hx,hk⟩)),h.len,h.apart⟩
theorem bg.ne {w:World}{b:Nat}{M:List (Slot×bj)}(h:bg w b M){s:Slot}{x:bj}(hx:am s M=some x):x.sv.ownBlock≠some b:=by
 intro e;obtain ⟨es,clock,hb,_⟩:=h.map.blk;rcases (h.own s x hx).2 with ⟨h0,_⟩ | ⟨g,cap,cur,hv,hb2,hg,_⟩
 ·rw [h0] at e;cases e
 ·rw [hv] at e;have:g=b:=by simpa [Value.ownBlock] using e
  subst this;rw [hb] at hg;cases hg
theorem bg.put {w w':World}{b:Nat}{M:List (Slot×bj)}{t:Slot}{x:bj}(hm:ei w' b Slot.val bj.val (putM t x M))(hf:Fr w w' (fun k=>k=b))
 (h:∀s y,am s M=some y->s≠t->w.ownsRow 0 71 2 y.sv y.kids.length (bo y.kids)/\y.kids.length<=1000000/\y.sv.ownBlock≠some b)
 (hap:∀s y s' y',am s M=some y->am s' M=some y'->s≠s'->∀k,y.sv.ownBlock=some k->y'.sv.ownBlock≠some k)
 (ho:w.ownsRow 0 71 2 x.sv x.kids.length (bo x.kids)) (hl:x.kids.length<=1000000)
 (ha:∀s y,am s M=some y->s≠t->∀k,x.sv.ownBlock=some k->y.sv.ownBlock≠some k) (hb:x.sv.ownBlock≠some b):bg w' b (putM t x M):=by
 have key:∀s y,am s (putM t x M)=some y->(s=t/\y=x)\/(s≠t/\am s M=some y):=by
  intro s y hy;rw [g_] at hy;split at hy
  ·rename_i e;cases hy;exact .inl ⟨e.symm,rfl⟩
  ·rename_i e;exact .inr ⟨fun e2=>e e2.symm,hy⟩
 refine ⟨hm,?_,?_,?_⟩
 ·intro s y hy;rcases key s y hy with ⟨_,rfl⟩ | ⟨h1,h2⟩
  ·exact hf.owns ho (fun k hk e=>hb (e▸hk))
  ·exact hf.owns (h s y h2 h1).1 (fun k hk e=>(h s y h2 h1).2.2 (e▸hk))
 ·intro s y hy;rcases key s y hy with ⟨_,rfl⟩ | ⟨h1,h2⟩
  ·exact hl
  ·exact (h s y h2 h1).2.1
 ·intro s y s' y' hy hy' hne k hk;rcases key s y hy with ⟨rfl,rfl⟩ | ⟨n1,h2⟩<;>rcases key s' y' hy' with ⟨rfl,rfl⟩ | ⟨n2,h3⟩
  ·exact absurd rfl hne
  ·exact ha s' y' h3 n2 k hk
  ·intro e;exact ha s y h2 n1 k e hk
  ·exact hap s y s' y' h2 h3 hne k hk
theorem bg.rest {w:World}{b:Nat}{M:List (Slot×bj)}(h:bg w b M)(s:Slot)(y:bj)(hy:am s M=some y):
 w.ownsRow 0 71 2 y.sv y.kids.length (bo y.kids)/\y.kids.length<=1000000/\y.sv.ownBlock≠some b:=⟨h.own s y hy,h.len s y hy,h.ne hy⟩
structure ah where
 hb:Nat
 tb:Nat
 nb:Nat
 rb:Nat
 qb:Nat
 H:List (Slot×KCap)
 M:List (Slot×bj)
 N:List (Int×Int)
 T:List (Int×oz)
 Q:List (Int×(Nat×Nat))
 dv:Value
 ws:Nat->Int
 C:Nat->List dx
def o_ (q:Nat×Nat):Value:=.agg #[.chan (some q.1),.chan (some q.2)]
structure a77 (V:ah)(c:Array Value):Prop where
 size:c.size=1030
 w:∀i,i<1024->c[i]?=some (.int .u32 (V.ws i))
 h:c[1024]?=some (.map (some V.hb))
 t:c[1025]?=some (.map (some V.tb))
 n:c[1026]?=some (.map (some V.nb))
 d:c[1027]?=some V.dv
 r:c[1028]?=some (.map (some V.rb))
 q:c[1029]?=some (.map (some V.qb))
def dx.val (x:dx):Value:=.agg #[.int .i64 x.thread,.int .i64 x.value,.int .i64 x.badge]
def lr (w:World)(c:Nat)(l:List dx):Prop:=∃s r,w.heap[c]?=some (.chan 64 (l.map dx.val).toArray false s r false)
structure jv (w:World)(Q:List (Int×(Nat×Nat)))(C:Nat->List dx):Prop where
 chan:∀b q,am b Q=some q->lr w q.1 (C q.1)/\lr w q.2 (C q.2)
 apart:∀b q b' q',am b Q=some q->am b' Q=some q'->b≠b'->q.1≠q'.1/\q.1≠q'.2/\q.2≠q'.1/\q.2≠q'.2
 two:∀b q,am b Q=some q->q.1≠q.2
def lh (Q:List (Int×(Nat×Nat)))(k:Nat):Prop:=∃b q,am b Q=some q/\(k=q.1\/k=q.2)
theorem lr.frame {w w':World}{S:Nat->Prop}{c:Nat}{l:List dx}(h:lr w c l)(hf:Fr w w' S)(hn:¬S c):lr w' c l:=by
 obtain ⟨s,r,hc⟩:=h;exact ⟨s,r,hf.same hc hn⟩
theorem jv.frame {w w':World}{Q:List (Int×(Nat×Nat))}{C:Nat->List dx}{S:Nat->Prop}(h:jv w Q C)(hf:Fr w w' S)(hs:∀k,lh Q k->¬S k):jv w' Q C:=
 ⟨fun b q hq=>⟨(h.chan b q hq).1.frame hf (hs _ ⟨b,q,hq,.inl rfl⟩),(h.chan b q hq).2.frame hf (hs _ ⟨b,q,hq,.inr rfl⟩)⟩,h.apart,h.two⟩
theorem jv.lt {w:World}{Q:List (Int×(Nat×Nat))}{C:Nat->List dx}(h:jv w Q C){k:Nat}(hk:lh Q k):k<w.heap.size:=by
 obtain ⟨b,q,hq,rfl | rfl⟩:=hk
 ·obtain ⟨s,r,hc⟩:=(h.chan b q hq).1;exact (Array.getElem?_eq_some_iff.1 hc).1
 ·obtain ⟨s,r,hc⟩:=(h.chan b q hq).2;exact (Array.getElem?_eq_some_iff.1 hc).1
theorem jv.noMap {w:World}{Q:List (Int×(Nat×Nat))}{C:Nat->List dx}(h:jv w Q C){κ α:Type}{val:κ->Value}{enc:α->Value}{b:Nat}{m:List (κ×α)}(hm:ei w b val enc m){k:Nat}(hk:lh Q k):k≠b:=by
 rintro rfl;obtain ⟨es,cl,hb,_⟩:=hm.blk;obtain ⟨b',q,hq,rfl | rfl⟩:=hk
 ·obtain ⟨s,r,hc⟩:=(h.chan b' q hq).1;rw [hb] at hc;cases hc
 ·obtain ⟨s,r,hc⟩:=(h.chan b' q hq).2;rw [hb] at hc;cases hc
theorem jv.noCells {w:World}{Q:List (Int×(Nat×Nat))}{C:Nat->List dx}(h:jv w Q C){b:Nat}{c:Array Value}{t:TypeId}{f:Nat×Nat}(hb:w.heap[b]?=some (.cells c t f)){k:Nat}(hk:lh Q k):k≠b:=by
 rintro rfl;obtain ⟨b',q,hq,rfl | rfl⟩:=hk
 ·obtain ⟨s,r,hc⟩:=(h.chan b' q hq).1;rw [hb] at hc;cases hc
 ·obtain ⟨s,r,hc⟩:=(h.chan b' q hq).2;rw [hb] at hc;cases hc
structure aq (w:World)(kb:Nat)(V:ah):Prop where
 blk:∃c,w.heap[kb]?=some (.cells c 69 (0,0))/\a77 V c
 held:ei w V.hb Slot.val KCap.val V.H
 tree:bg w V.tb V.M
 nodes:ei w V.nb ke ke V.N
 thr:ei w V.rb ke oz.val V.T
 que:ei w V.qb ke o_ V.Q
 ht:V.hb≠V.tb
 hn:V.hb≠V.nb
 hr:V.hb≠V.rb
 hq:V.hb≠V.qb
 tn:V.tb≠V.nb
 tr:V.tb≠V.rb
 tq:V.tb≠V.qb
 nr:V.nb≠V.rb
 nq:V.nb≠V.qb
 rq:V.rb≠V.qb
 rows:∀s x,am s V.M=some x->x.sv.ownBlock≠some kb
 rest:jv w V.Q V.C
def ah.fp (kb:Nat)(V:ah)(k:Nat):Prop:=k=kb\/k=V.hb\/k=V.nb\/k=V.rb\/k=V.qb\/br V.tb V.M k\/lh V.Q k
def ah.ker (V:ah):a_:=⟨fun s=>am s V.H,cx V.M,fun b=>am b V.N,fun b=>am b V.T,V.ws,fun b=>(am b V.Q).map fun q=>(V.C q.1,V.C q.2)⟩
def kg (w:World)(kb:Nat)(V:ah)(K:a_)(w':World):Prop:=
 ∃V',aq w' kb V'/\V'.ker=K/\V'.dv=V.dv/\Fr w w' (V.fp kb)/\∀k,V'.fp kb k->V.fp kb k\/w.heap.size<=k
theorem di {κ α:Type}{val:κ->Value}{enc:α->Value}{w:World}{b:Nat}{m:List (κ×α)}(h:ei w b val enc m){c:Array Value}{t:TypeId}{f:Nat×Nat}:w.heap[b]?≠some (.cells c t f):=by
 obtain ⟨es,cl,hb,_⟩:=h.blk;rw [hb];exact fun e=>by cases e
theorem af7 {w:World}{b t s n g:Nat}{v:Value}{xs:List Value}(h:w.ownsRow b t s v n xs)(hk:v.ownBlock=some g):∃c f,w.heap[g]?=some (.cells c t f):=by
 rcases h.2 with ⟨h0,_⟩ | ⟨g',cap,cur,hv,_,hg,_⟩
 ·rw [h0] at hk;cases hk
 ·rw [hv] at hk;cases hk;exact ⟨_,_,hg⟩
section
variable {w:World} {kb:Nat} {V:ah}
theorem aq.kh (h:aq w kb V):kb≠V.hb:=fun e=>by obtain ⟨c,hc,_⟩:=h.blk;exact di h.held (e▸hc)
theorem aq.kt (h:aq w kb V):kb≠V.tb:=fun e=>by obtain ⟨c,hc,_⟩:=h.blk;exact di h.tree.map (e▸hc)
theorem aq.kn (h:aq w kb V):kb≠V.nb:=fun e=>by obtain ⟨c,hc,_⟩:=h.blk;exact di h.nodes (e▸hc)
theorem aq.kr (h:aq w kb V):kb≠V.rb:=fun e=>by obtain ⟨c,hc,_⟩:=h.blk;exact di h.thr (e▸hc)
theorem aq.kq (h:aq w kb V):kb≠V.qb:=fun e=>by obtain ⟨c,hc,_⟩:=h.blk;exact di h.que (e▸hc)
theorem aq.row_ne {s:Slot}{x:bj}{k:Nat}(h:aq w kb V)(hx:am s V.M=some x)(hk:x.sv.ownBlock=some k):k≠V.hb/\k≠V.nb/\k≠V.rb/\k≠V.qb/\k≠V.tb/\k≠kb:=by
 obtain ⟨c,f,hc⟩:=af7 (h.tree.own s x hx) hk;exact ⟨fun e=>di h.held (e▸hc),fun e=>di h.nodes (e▸hc),fun e=>di h.thr (e▸hc),fun e=>di h.que (e▸hc),fun e=>di h.tree.map (e▸hc),fun e=>h.rows s x hx (e▸hk)⟩
theorem aq.fpLt (h:aq w kb V){k:Nat}(hk:V.fp kb k):k<w.heap.size:=by
 rcases hk with rfl | rfl | rfl | rfl | rfl | hk | hk
 ·obtain ⟨c,hc,_⟩:=h.blk;exact (Array.getElem?_eq_some_iff.1 hc).1
 ·exact h.held.lt
 ·exact h.nodes.lt
 ·exact h.thr.lt
 ·exact h.que.lt
 ·exact h.tree.fpLt hk
 ·exact h.rest.lt hk
theorem aq.frame {w':World}{S:Nat->Prop}(h:aq w kb V)(hf:Fr w w' S)(hs:∀k,V.fp kb k->¬S k):aq w' kb V:=by
 obtain ⟨c,hc,hcc⟩:=h.blk;exact ⟨⟨c,hf.same hc (hs _ (.inl rfl)),hcc⟩,h.held.frame hf (hs _ (.inr (.inl rfl))),h.tree.frame hf (fun k hk=>hs k (.inr (.inr (.inr (.inr (.inr (.inl hk))))))),h.nodes.frame hf (hs _ (.inr (.inr (.inl rfl)))),
  h.thr.frame hf (hs _ (.inr (.inr (.inr (.inl rfl))))),h.que.frame hf (hs _ (.inr (.inr (.inr (.inr (.inl rfl)))))),h.ht,h.hn,h.hr,h.hq,h.tn,h.tr,h.tq,h.nr,h.nq,h.rq,h.rows,h.rest.frame hf (fun k hk=>hs k (.inr (.inr (.inr (.inr (.inr (.inr hk)))))))⟩
theorem aq.cw (h:aq w kb V){i:Nat}(hi:i<1024):w.cell? ⟨kb,i,none⟩=some (.int .u32 (V.ws i)):=by obtain ⟨c,hc,hcc⟩:=h.blk;exact aa hc (hcc.w i hi)
theorem aq.ch (h:aq w kb V):w.cell? ⟨kb,1024,none⟩=some (.map (some V.hb)):=by obtain ⟨c,hc,hcc⟩:=h.blk;exact aa hc hcc.h
theorem aq.ct (h:aq w kb V):w.cell? ⟨kb,1025,none⟩=some (.map (some V.tb)):=by obtain ⟨c,hc,hcc⟩:=h.blk;exact aa hc hcc.t
theorem aq.cn (h:aq w kb V):w.cell? ⟨kb,1026,none⟩=some (.map (some V.nb)):=by obtain ⟨c,hc,hcc⟩:=h.blk;exact aa hc hcc.n
theorem aq.cd (h:aq w kb V):w.cell? ⟨kb,1027,none⟩=some V.dv:=by obtain ⟨c,hc,hcc⟩:=h.blk;exact aa hc hcc.d
theorem aq.cr (h:aq w kb V):w.cell? ⟨kb,1028,none⟩=some (.map (some V.rb)):=by obtain ⟨c,hc,hcc⟩:=h.blk;exact aa hc hcc.r
theorem aq.cq (h:aq w kb V):w.cell? ⟨kb,1029,none⟩=some (.map (some V.qb)):=by obtain ⟨c,hc,hcc⟩:=h.blk;exact aa hc hcc.q
theorem aq.fz (h:aq w kb V)(o:Nat):w.frozen? ⟨kb,o,none⟩=false:=by obtain ⟨c,hc,hcc⟩:=h.blk;exact ab hc
theorem aq.putH {w':World}(h:aq w kb V){m:List (Slot×KCap)}(hm:ei w' V.hb Slot.val KCap.val m)(hf:Fr w w' (fun k=>k=V.hb)):aq w' kb {V with H:=m}:=by
 obtain ⟨c,hc,hcc⟩:=h.blk;refine ⟨⟨c,hf.same hc h.kh,⟨hcc.size,hcc.w,hcc.h,hcc.t,hcc.n,hcc.d,hcc.r,hcc.q⟩⟩,hm,h.tree.frame hf ?_,h.nodes.frame hf (Ne.symm h.hn),h.thr.frame hf (Ne.symm h.hr),h.que.frame hf (Ne.symm h.hq),h.ht,h.hn,h.hr,h.hq,h.tn,h.tr,h.tq,h.nr,h.nq,h.rq,h.rows,h.rest.frame hf (fun k hk=>h.rest.noMap h.held hk)⟩;rintro k (rfl | ⟨s,x,hx,hk⟩)
 ·exact Ne.symm h.ht
 ·exact (h.row_ne hx hk).1
theorem aq.putN {w':World}(h:aq w kb V){m:List (Int×Int)}(hm:ei w' V.nb ke ke m)(hf:Fr w w' (fun k=>k=V.nb)):aq w' kb {V with N:=m}:=by
 obtain ⟨c,hc,hcc⟩:=h.blk;refine ⟨⟨c,hf.same hc h.kn,⟨hcc.size,hcc.w,hcc.h,hcc.t,hcc.n,hcc.d,hcc.r,hcc.q⟩⟩,h.held.frame hf h.hn,h.tree.frame hf ?_,hm,h.thr.frame hf (Ne.symm h.nr),h.que.frame hf (Ne.symm h.nq),h.ht,h.hn,h.hr,h.hq,h.tn,h.tr,h.tq,h.nr,h.nq,h.rq,h.rows,h.rest.frame hf (fun k hk=>h.rest.noMap h.nodes hk)⟩;rintro k (rfl | ⟨s,x,hx,hk⟩)
 ·exact h.tn
 ·exact (h.row_ne hx hk).2.1
theorem aq.putT {w':World}(h:aq w kb V){m:List (Int×oz)}(hm:ei w' V.rb ke oz.val m)(hf:Fr w w' (fun k=>k=V.rb)):aq w' kb {V with T:=m}:=by
 obtain ⟨c,hc,hcc⟩:=h.blk;refine ⟨⟨c,hf.same hc h.kr,⟨hcc.size,hcc.w,hcc.h,hcc.t,hcc.n,hcc.d,hcc.r,hcc.q⟩⟩,h.held.frame hf h.hr,h.tree.frame hf ?_,h.nodes.frame hf h.nr,hm,h.que.frame hf (Ne.symm h.rq),h.ht,h.hn,h.hr,h.hq,h.tn,h.tr,h.tq,h.nr,h.nq,h.rq,h.rows,h.rest.frame hf (fun k hk=>h.rest.noMap h.thr hk)⟩;rintro k (rfl | ⟨s,x,hx,hk⟩)
 ·exact h.tr
 ·exact (h.row_ne hx hk).2.2.1
theorem aq.putQ {w':World}(h:aq w kb V){m:List (Int×(Nat×Nat))}(hm:ei w' V.qb ke o_ m)(hf:Fr w w' (fun k=>k=V.qb)){C':Nat->List dx}(hr:jv w' m C'):aq w' kb {V with Q:=m,C:=C'}:=by
 obtain ⟨c,hc,hcc⟩:=h.blk;refine ⟨⟨c,hf.same hc h.kq,⟨hcc.size,hcc.w,hcc.h,hcc.t,hcc.n,hcc.d,hcc.r,hcc.q⟩⟩,h.held.frame hf h.hq,h.tree.frame hf ?_,h.nodes.frame hf h.nq,h.thr.frame hf h.rq,hm,h.ht,h.hn,h.hr,h.hq,h.tn,h.tr,h.tq,h.nr,h.nq,h.rq,h.rows,hr⟩;rintro k (rfl | ⟨s,x,hx,hk⟩)
 ·exact h.tq
 ·exact (h.row_ne hx hk).2.2.2.1
theorem aq.putM {w':World}(h:aq w kb V){m:List (Slot×bj)}(hm:bg w' V.tb m)(hf:Fr w w' (br V.tb V.M))(hr:∀k,br V.tb m k->br V.tb V.M k\/w.heap.size<=k):aq w' kb {V with M:=m}:=by
 obtain ⟨c,hc,hcc⟩:=h.blk;have no:∀k,(k=kb\/k=V.hb\/k=V.nb\/k=V.rb\/k=V.qb)->¬br V.tb V.M k:=by
  rintro k hk (rfl | ⟨s,x,hx,hkk⟩)
  ·rcases hk with e | e | e | e | e
   ·exact h.kt e.symm
   ·exact h.ht e.symm
   ·exact h.tn e
   ·exact h.tr e
   ·exact h.tq e
  ·obtain ⟨e1,e2,e3,e4,e5,e6⟩:=h.row_ne hx hkk;rcases hk with e | e | e | e | e
   ·exact e6 e
   ·exact e1 e
   ·exact e2 e
   ·exact e3 e
   ·exact e4 e
 refine ⟨⟨c,hf.same hc (no _ (.inl rfl)),⟨hcc.size,hcc.w,hcc.h,hcc.t,hcc.n,hcc.d,hcc.r,hcc.q⟩⟩,h.held.frame hf (no _ (.inr (.inl rfl))),hm,h.nodes.frame hf (no _ (.inr (.inr (.inl rfl)))),h.thr.frame hf (no _ (.inr (.inr (.inr (.inl rfl))))),h.que.frame hf (no _ (.inr (.inr (.inr (.inr rfl))))),h.ht,h.hn,h.hr,h.hq,h.tn,h.tr,h.tq,h.nr,h.nq,h.rq,?_,?_⟩
 ·intro s x hx e;rcases hr kb (.inr ⟨s,x,hx,e⟩) with h1 | h1
  ·exact no kb (.inl rfl) h1
  ·have:=h.fpLt (k:=kb) (.inl rfl);omega
 ·refine h.rest.frame hf ?_;rintro k hk (rfl | ⟨s,x,hx,hkk⟩)
  ·exact h.rest.noMap h.tree.map hk rfl
  ·obtain ⟨c0,f0,hc0⟩:=af7 (h.tree.own s x hx) hkk;exact h.rest.noCells hc0 hk rfl
end
end Go.Proofs.YtdpjgflemddekaaGreatDoor

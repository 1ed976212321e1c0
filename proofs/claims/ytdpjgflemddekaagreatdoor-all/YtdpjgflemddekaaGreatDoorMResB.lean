/- The code: reset, gone through to its end. -/
import Derived.Test.YtdpjgflemddekaaGreatDoorMWorkB
import Derived.Deep.LoopGhost
set_option maxRecDepth 100000
set_option maxHeartbeats 1000000
namespace Go.Proofs.YtdpjgflemddekaaGreatDoor
open Go.RowKit Go.Shelf
attribute [local go_sem] Oper.semAt_some
abbrev dwn (m:Int):Int:=max (m-16) 0
abbrev low (m:Int):Bool:=decide (m<=0)
theorem ag7:∀(k:Nat) (m:Int),m<=16*(k:Int)->xx dwn low k m
 | 0,m,h=>by unfold xx;simp [low];omega
 | k+1,m,h=>by
  unfold xx;by_cases hm:m<=0
  ·left;simp [low,hm]
  ·right;exact ag7 k _ (by simp only [dwn];omega)
theorem a49 {K:a_}{f:Slot}{b n m:Int}(h:K.held f=some (.untyped b n m)):ed K f b n m m=K:=by
 unfold ed;have h1:upd K.held f (some (.untyped b n m))=K.held:=by
  funext x;simp only [upd];split
  ·rename_i e;rw [e,h]
  ·rfl
 have h2:ou K.ws (b+m) (m-m)=K.ws:=by
  funext i;unfold ou;rw [if_neg (by omega)]
 rw [h1,h2]
theorem a71 {K:a_}{f:Slot}{b n m mc lo:Int}(h1:lo<=mc)(h2:mc<=m):({ed K f b n m mc with held:=upd (ed K f b n m mc).held f (some (.untyped b n lo)),ws:=ou (ed K f b n m mc).ws (b+lo) (mc-lo)}:a_)=ed K f b n m lo:=by
 unfold ed;simp only;congr 1
 ·funext x;simp only [upd];split<;>rfl
 ·funext i;unfold ou;by_cases e1:b+lo<=(i:Int)/\(i:Int)<b+lo+(mc-lo)
  ·rw [if_pos e1,if_pos (by omega)]
  ·rw [if_neg e1];by_cases e2:b+mc<=(i:Int)/\(i:Int)<b+mc+(m-mc)
   ·rw [if_pos e2,if_pos (by omega)]
   ·rw [if_neg e2,if_neg (by omega)]
structure b91 (W1:World)(kb d:Nat)(V:ah)(K:a_)(D:List (Int×Int))(f:Slot)(b n m m0:Int)(o2:Obj)(k:Nat)(wr:World)(mc:Int)(V':ah):Prop where
 kd:s_ wr kb ⟨ed K f b n m mc,D⟩ V'
 ge:0<=mc
 le:mc<=m
 ends:xx dwn low k mc
 left:(ao dwn low k mc []).1=m0
 fr:Fr W1 wr (fun k=>V.fd kb k\/k=d+1)
 sub:∀k,V'.fd kb k->V.fd kb k\/W1.heap.size<=k
 o2:wr.heap[d+1]?=some o2
theorem b00 (x y:Int)(ats:Array TypeId)(ty:TypeId)(w:World):(Builtin.max_ ats ty #[.int .i64 x,.int .i64 y]).run Tryz.prog w=.ok (.int .i64 (max x y)) w:=by
 simp only [Builtin.max_,List.foldlM_cons,List.foldlM_nil,Builtin.max2];simp only [Sem.run_bind,Sem.run_pure,Result.andThen];congr 2;split<;>omega
theorem bz0:∀args w,(callFunc 96 args).run Tryz.prog w=.ok (.enter 96 args) w:=enters_of Tryz.func96 (by kernel_rfl) rfl
theorem s_.kout {w w':World}{kb:Nat}{S:KS}{V:ah}{K':a_}(h:s_ w kb S V)(ho:kg w kb V K' w'):fg w kb V ⟨K',S.D⟩ w':=by
 obtain ⟨V',h1,h2,h3,h4,h5⟩:=ho;refine h.out ⟨V',⟨h1,h2,?_,fun k hk e=>?_⟩,h4.mono (fun _ e=>.inl e),fun k hk=>?_⟩
 ·rw [h3];exact h4.owns h.kd.d (fun k hk=>h.kd.ap k hk)
 ·rw [h3] at hk;rcases h5 k e with e1 | e1
  ·exact h.kd.ap k hk e1
  ·have:=(h.kd.d.lt k hk).2;omega
 ·rcases hk with e | e
  ·exact (h5 k e).imp .inl id
  ·rw [h3] at e;exact .inl (.inr e)
theorem s_.stay {w w':World}{kb:Nat}{S:KS}{V:ah}(h:s_ w kb S V)(hf:Fr w w' (fun _=>False)):fg w kb V S w':=⟨V,h.frame hf (fun _ _=>id) (fun _=>False.elim),hf.mono (fun _=>False.elim),fun _ e=>.inl e⟩
theorem sm {P:Program}{f:FuncId}{args:Array Value}{w:World}{n:Nat}{v:Value}
 (h:Calls P f args (w.drewN n) fun e w'=>e=.returned v/\w'=w.drewN n):Calls P f args (w.drewN n) fun e w''=>e=.returned v/\∃m,w''=w.drewN m:=
 h.mono fun _ _ ⟨he,hm⟩=>⟨he,n,hm⟩
theorem by5 (K:a_):∀(l:List Int) (nd:Int) (t:Slot),goK K nd l=some t->okK K t.node t.index=true
 | [],_,_,h=>by cases h
 | [x],nd,t,h=>by
  simp only [goK] at h;split at h
  ·rename_i ho;cases h;exact ho
  ·cases h
 | x :: y :: r,nd,t,h=>by
  simp only [goK] at h;split at h
  ·cases hn:nf K ⟨nd,x⟩ with
   | none=>rw [hn] at h;cases h
   | some nd'=>rw [hn] at h;exact by5 K (y :: r) nd' t h
  ·cases h
theorem bt1 {K:a_}{root:Int}{l:List Int}{t:Slot}(h:az K root l=some t):okK K t.node t.index=true:=by
 unfold az at h;split at h
 ·cases h
 ·exact by5 K l root t h
theorem ba1 {ty bits:Int}(h:jo ty bits=true):0<=bits/\bits<=10:=by
 simp only [jo,Bool.and_eq_true,decide_eq_true_eq] at h;obtain ⟨⟨h0,h6⟩,h1,h2⟩:=h;have:ty=0\/ty=1\/ty=2\/ty=3\/ty=4\/ty=5:=by omega
 rcases this with rfl | rfl | rfl | rfl | rfl | rfl<;>simp [o9,sr] at h1 h2<;>omega
theorem row_ne {K:a_}{root:Int}{l:List Int}{n:Nat}{t f:Slot}{k:KCap}(h:ah2 K root l n=some (t,true))(hf:K.held f=some k)(i:Nat)(hi:i<n):(⟨t.node,t.index+(i:Int)⟩:Slot)≠f:=by
 unfold ah2 at h;split at h
 ·cases h
 ·split at h
  ·injection h with h
   injection h with h1 h2
   subst h1;intro e;have hm:=List.all_eq_true.1 h2 ⟨_,_⟩ (by rw [ci];exact List.mem_map.2 ⟨i,List.mem_range.2 hi,rfl⟩);rw [e,hf] at hm;cases hm
  ·cases h
theorem ai8 {w W:World}{V:ah}{kb ub:Nat}{c:Cl}{av tv bv:Value}{th root:Int}{f t:Slot}{b n m:Int}{cnt g B:Nat}(h:de w kb ub V c av tv bv th root)(hF:Fr w W (fun _=>False))(hu:0<=b/\b<=1024/\0<=m/\m<=1024/\0<=n/\n<=10)(hkids:∀x,V.ker.st f=some x->x.kids.length<=900000)
 (hk:V.ker.held f=some (.untyped b n m)) (hgk:¬V.fp kb g) (hown:W.ownsRow B 71 2 (.slice (some ⟨g,0,none⟩) cnt cnt) cnt (bo (ci t cnt))) (hn1:1<=cnt) (hn8:cnt<=8) (hbits:0<=c.bits/\c.bits<=10)
 (hrow:∀i:Nat,i<cnt->(⟨t.node,t.index+(i:Int)⟩:Slot)≠f) {x:Int} {K:a_} (hx:ld V.ker f t c.ty c.bits root b n m cnt=(x,K)) :
 Calls Tryz.prog 64 #[.pointer (some ⟨ub,0,none⟩),.agg #[.int .i64 f.node,.int .i64 f.index],.slice (some ⟨g,0,none⟩) cnt cnt] W fun e w'=>e=.returned (.int .i64 x)/\kg w kb V K w':=by
 obtain ⟨u1,u2,u3,u4,u5,u6⟩:=hu;have:=bo0 V kb ub c av tv bv th root f t b n m cnt g W (h.frame hF) hk (jn hown (Nat.zero_le _)) hgk hn1 hn8 u1 u2 u3 u4 u5 u6 hbits.1 hbits.2 hkids hrow;rw [hx] at this;refine this.mono ?_;rintro e w' ⟨he,hK⟩;exact ⟨he,hK.of (hF.mono (fun _=>False.elim)) rfl (fun k hk=>.inl hk)⟩
def oy:Value:=.agg #[.nilFunc,.func (.func 34) #[] #[],.func (.func 35) #[] #[],.func (.func 36) #[] #[],.func (.func 37) #[] #[],.func (.func 38) #[] #[],
 .func (.func 39) #[] #[],.func (.func 40) #[] #[],.func (.func 41) #[] #[],.func (.func 42) #[] #[],.func (.func 43) #[] #[],.func (.func 44) #[] #[]]
theorem af6 (w:World):Calls Tryz.prog 22 #[] w fun e w'=>e=.returned oy/\Fr w w' (fun _=>False):=by
 go_enter Tryz.func22,Tryz.ntmps22
 go_wp2;refine bodyPost_ret (v:=oy) (by simp [results,Tryz.results22,go_sem,oy]) rfl ⟨rfl,(Fr.refl _ _).alloc _⟩
def kf (kb:Nat)(th:Int)(c:Cl)(av tv bv:Value):Array Value:=
 #[.pointer (some ⟨kb,0,none⟩),.int .i64 th,.agg (c.cells av tv),bv]
theorem a67 (w:World)(c:Cl)(av tv:Value):Fr w (((w.alloc (.cells #[.int .i64 c.kind,av,tv,.int .i64 c.ty,.int .i64 c.bits,.int .i64 c.count,.int .i64 c.rights,.int .i64 c.badge,.int .i64 c.value,.int .i64 c.offset] 41)).alloc (.cells #[.int .i64 0] 3)).alloc (.cells #[.int .i64 0] 36)) (fun _=>False):=
 (((Fr.refl _ _).alloc _).alloc _).alloc _
theorem a00 {kb n:Nat}(h:kb<n):kb<n+1/\kb<n+1+1:=by omega
theorem bf1 (V:ah)(kb:Nat)(c:Cl)(av tv bv:Value)(th:Int)(w:World)(h:aq w kb V)(ht:V.ker.thr th=none):
 Calls Tryz.prog 11 (kf kb th c av tv bv) w fun e w'=>e=.returned (.tuple #[.int .i64 0,.int .i64 1])/\Fr w w' (fun _=>False):=by
 have hf0:=a67 w c av tv;have hrun:=uf (h.frame hf0 (fun _ _=>id)) th;have cr:=h.cr;have hlt:=World.block_lt_of_cell? _ _ cr;obtain ⟨hlt1,hlt2⟩:=a00 hlt;rw [ht] at hrun;dsimp only [Option.isSome] at hrun;unfold kf Cl.cells;go_enter Tryz.func11,Tryz.ntmps11
 go_wp2;refine bodyPost_ret (v:=.tuple #[.int .i64 0,.int .i64 1]) (by simp [results,Tryz.results11,go_sem]) rfl ⟨rfl,?_⟩;exact ((((Fr.refl _ _).alloc _).alloc _).alloc _).alloc _
theorem az1 (V:ah)(kb:Nat)(c:Cl)(av tv bv:Value)(th:Int)(w:World)(h:aq w kb V){t:oz}(ht:V.ker.thr th=some t)(hs:t.state≠1):
 Calls Tryz.prog 11 (kf kb th c av tv bv) w fun e w'=>e=.returned (.tuple #[.int .i64 0,.int .i64 1])/\Fr w w' (fun _=>False):=by
 have hf0:=a67 w c av tv;have hrun:=uf (h.frame hf0 (fun _ _=>id)) th;have cr:=h.cr;have hlt:=World.block_lt_of_cell? _ _ cr;obtain ⟨hlt1,hlt2⟩:=a00 hlt;rw [ht] at hrun;dsimp only [Option.isSome] at hrun;have hs1:decide (t.state=1)=false:=decide_eq_false hs;unfold kf Cl.cells;go_enter Tryz.func11,Tryz.ntmps11
 go_wp2;refine bodyPost_ret (v:=.tuple #[.int .i64 0,.int .i64 1]) (by simp [results,Tryz.results11,go_sem]) rfl ⟨rfl,?_⟩;exact ((((Fr.refl _ _).alloc _).alloc _).alloc _).alloc _
theorem b51 (V:ah)(kb:Nat)(c:Cl)(av tv bv:Value)(th:Int)(w:World)(h:aq w kb V){t:oz}(ht:V.ker.thr th=some t)(hs:t.state=1)(hk:c.kind<1):
 Calls Tryz.prog 11 (kf kb th c av tv bv) w fun e w'=>e=.returned (.tuple #[.int .i64 0,.int .i64 7])/\Fr w w' (fun _=>False):=by
 have hf0:=a67 w c av tv;have hrun:=uf (h.frame hf0 (fun _ _=>id)) th;have cr:=h.cr;have hlt:=World.block_lt_of_cell? _ _ cr;obtain ⟨hlt1,hlt2⟩:=a00 hlt;rw [ht] at hrun;dsimp only [Option.isSome] at hrun;have hk1:decide (c.kind<1)=true:=decide_eq_true hk;unfold kf Cl.cells;go_enter Tryz.func11,Tryz.ntmps11
 go_wp2;refine bodyPost_ret (v:=.tuple #[.int .i64 0,.int .i64 7]) (by simp [results,Tryz.results11,go_sem]) rfl ⟨rfl,?_⟩;exact ((((Fr.refl _ _).alloc _).alloc _).alloc _).alloc _
theorem b27 (V:ah)(kb:Nat)(c:Cl)(av tv bv:Value)(th:Int)(w:World)(h:aq w kb V){t:oz}(ht:V.ker.thr th=some t)(hs:t.state=1)(hk:12<=c.kind):
 Calls Tryz.prog 11 (kf kb th c av tv bv) w fun e w'=>e=.returned (.tuple #[.int .i64 0,.int .i64 7])/\Fr w w' (fun _=>False):=by
 have hf0:=a67 w c av tv;have hrun:=uf (h.frame hf0 (fun _ _=>id)) th;have cr:=h.cr;have hlt:=World.block_lt_of_cell? _ _ cr;obtain ⟨hlt1,hlt2⟩:=a00 hlt;rw [ht] at hrun;dsimp only [Option.isSome] at hrun;have hk1:decide (c.kind<1)=false:=decide_eq_false (by omega);have hk2:decide (12<=c.kind)=true:=decide_eq_true hk;unfold kf Cl.cells;go_enter Tryz.func11,Tryz.ntmps11
 go_wp2;refine bodyPost_ret (v:=.tuple #[.int .i64 0,.int .i64 7]) (by simp [results,Tryz.results11,go_sem]) rfl ⟨rfl,?_⟩;exact ((((Fr.refl _ _).alloc _).alloc _).alloc _).alloc _
end Go.Proofs.YtdpjgflemddekaaGreatDoor

/- The code: reset, gone through to its end. -/
import Derived.Test.YtdpjgflemddekaaDoorMWorkB
import Derived.Deep.LoopGhost
set_option maxRecDepth 100000
set_option maxHeartbeats 1000000
namespace Go.Proofs.YtdpjgflemddekaaDoor
open Go.RowKit Go.Shelf
attribute [local go_sem] Oper.semAt_some
abbrev dwn (m:Int):Int:=max (m-16) 0
abbrev low (m:Int):Bool:=decide (m<=0)
theorem ad9:∀(k:Nat) (m:Int),m<=16*(k:Int)->qi dwn low k m
 | 0,m,h=>by unfold qi;simp [low];omega
 | k+1,m,h=>by
  unfold qi;by_cases hm:m<=0
  ·left;simp [low,hm]
  ·right;exact ad9 k _ (by simp only [dwn];omega)
theorem a37 {K:a_}{f:Slot}{b n m:Int}(h:K.held f=some (.untyped b n m)):dg K f b n m m=K:=by
 unfold dg;have h1:upd K.held f (some (.untyped b n m))=K.held:=by
  funext x;simp only [upd];split
  ·rename_i e;rw [e,h]
  ·rfl
 have h2:oy K.ws (b+m) (m-m)=K.ws:=by
  funext i;unfold oy;rw [if_neg (by omega)]
 rw [h1,h2]
theorem a18 {K:a_}{f:Slot}{b n m mc lo:Int}(h1:lo<=mc)(h2:mc<=m):({dg K f b n m mc with held:=upd (dg K f b n m mc).held f (some (.untyped b n lo)),ws:=oy (dg K f b n m mc).ws (b+lo) (mc-lo)}:a_)=dg K f b n m lo:=by
 unfold dg;simp only;congr 1
 ·funext x;simp only [upd];split<;>rfl
 ·funext i;unfold oy;by_cases e1:b+lo<=(i:Int)/\(i:Int)<b+lo+(mc-lo)
  ·rw [if_pos e1,if_pos (by omega)]
  ·rw [if_neg e1];by_cases e2:b+mc<=(i:Int)/\(i:Int)<b+mc+(m-mc)
   ·rw [if_pos e2,if_pos (by omega)]
   ·rw [if_neg e2,if_neg (by omega)]
structure b87 (W1:World)(kb d:Nat)(V:aj)(K:a_)(D:List (Int×Int))(f:Slot)(b n m m0:Int)(o2:Obj)(k:Nat)(wr:World)(mc:Int)(V':aj):Prop where
 kd:qq wr kb ⟨dg K f b n m mc,D⟩ V'
 ge:0<=mc
 le:mc<=m
 ends:qi dwn low k mc
 left:(ak dwn low k mc []).1=m0
 fr:Fr W1 wr (fun k=>V.fd kb k\/k=d+1)
 sub:∀k,V'.fd kb k->V.fd kb k\/W1.heap.size<=k
 o2:wr.heap[d+1]?=some o2
theorem bz_ (x y:Int)(ats:Array TypeId)(ty:TypeId)(w:World):(Builtin.max_ ats ty #[.int .i64 x,.int .i64 y]).run Tryd.prog w=.ok (.int .i64 (max x y)) w:=by
 simp only [Builtin.max_,List.foldlM_cons,List.foldlM_nil,Builtin.max2];simp only [Sem.run_bind,Sem.run_pure,Result.andThen];congr 2;split<;>omega
theorem bu9:∀args w,(callFunc 86 args).run Tryd.prog w=.ok (.enter 86 args) w:=enters_of Tryd.func86 (by kernel_rfl) rfl
theorem qq.kout {w w':World}{kb:Nat}{S:KS}{V:aj}{K':a_}(h:qq w kb S V)(ho:je w kb V K' w'):gj w kb V ⟨K',S.D⟩ w':=by
 obtain ⟨V',h1,h2,h3,h4,h5⟩:=ho;refine h.out ⟨V',⟨h1,h2,?_,fun k hk e=>?_⟩,h4.mono (fun _ e=>.inl e),fun k hk=>?_⟩
 ·rw [h3];exact h4.owns h.kd.d (fun k hk=>h.kd.ap k hk)
 ·rw [h3] at hk;rcases h5 k e with e1 | e1
  ·exact h.kd.ap k hk e1
  ·have:=(h.kd.d.lt k hk).2;omega
 ·rcases hk with e | e
  ·exact (h5 k e).imp .inl id
  ·rw [h3] at e;exact .inl (.inr e)
theorem qq.stay {w w':World}{kb:Nat}{S:KS}{V:aj}(h:qq w kb S V)(hf:Fr w w' (fun _=>False)):gj w kb V S w':=⟨V,h.frame hf (fun _ _=>id) (fun _=>False.elim),hf.mono (fun _=>False.elim),fun _ e=>.inl e⟩
theorem qy {P:Program}{f:FuncId}{args:Array Value}{w:World}{n:Nat}{v:Value}
 (h:Calls P f args (w.drewN n) fun e w'=>e=.returned v/\w'=w.drewN n):Calls P f args (w.drewN n) fun e w''=>e=.returned v/\∃m,w''=w.drewN m:=
 h.mono fun _ _ ⟨he,hm⟩=>⟨he,n,hm⟩
theorem bp7 (K:a_):∀(l:List Int) (nd:Int) (t:Slot),goK K nd l=some t->okK K t.node t.index=true
 | [],_,_,h=>by cases h
 | [x],nd,t,h=>by
  simp only [goK] at h;split at h
  ·rename_i ho;cases h;exact ho
  ·cases h
 | x :: y :: r,nd,t,h=>by
  simp only [goK] at h;split at h
  ·cases hn:j9 K ⟨nd,x⟩ with
   | none=>rw [hn] at h;cases h
   | some nd'=>rw [hn] at h;exact bp7 K (y :: r) nd' t h
  ·cases h
theorem br3 {K:a_}{root:Int}{l:List Int}{t:Slot}(h:ay K root l=some t):okK K t.node t.index=true:=by
 unfold ay at h;split at h
 ·cases h
 ·exact bp7 K l root t h
theorem be8 {ty bits:Int}(h:jf ty bits=true):0<=bits/\bits<=10:=by
 simp only [jf,Bool.and_eq_true,decide_eq_true_eq] at h;obtain ⟨⟨h0,h6⟩,h1,h2⟩:=h;have:ty=0\/ty=1\/ty=2\/ty=3\/ty=4\/ty=5:=by omega
 rcases this with rfl | rfl | rfl | rfl | rfl | rfl<;>simp [ns,qw] at h1 h2<;>omega
theorem row_ne {K:a_}{root:Int}{l:List Int}{n:Nat}{t f:Slot}{k:KCap}(h:af6 K root l n=some (t,true))(hf:K.held f=some k)(i:Nat)(hi:i<n):(⟨t.node,t.index+(i:Int)⟩:Slot)≠f:=by
 unfold af6 at h;split at h
 ·cases h
 ·split at h
  ·injection h with h
   injection h with h1 h2
   subst h1;intro e;have hm:=List.all_eq_true.1 h2 ⟨_,_⟩ (by rw [cy];exact List.mem_map.2 ⟨i,List.mem_range.2 hi,rfl⟩);rw [e,hf] at hm;cases hm
  ·cases h
theorem ak2 {w W:World}{V:aj}{kb ub:Nat}{c:Cl}{av tv bv:Value}{th root:Int}{f t:Slot}{b n m:Int}{cnt g B:Nat}(h:di w kb ub V c av tv bv th root)(hF:Fr w W (fun _=>False))(hu:0<=b/\b<=1024/\0<=m/\m<=1024/\0<=n/\n<=10)(hkids:∀x,V.ker.st f=some x->x.kids.length<=900000)
 (hk:V.ker.held f=some (.untyped b n m)) (hgk:¬V.fp kb g) (hown:W.ownsRow B 72 2 (.slice (some ⟨g,0,none⟩) cnt cnt) cnt (b_ (cy t cnt))) (hn1:1<=cnt) (hn8:cnt<=8) (hbits:0<=c.bits/\c.bits<=10)
 (hrow:∀i:Nat,i<cnt->(⟨t.node,t.index+(i:Int)⟩:Slot)≠f) {x:Int} {K:a_} (hx:jd V.ker f t c.ty c.bits root b n m cnt=(x,K)) :
 Calls Tryd.prog 67 #[.pointer (some ⟨ub,0,none⟩),.agg #[.int .i64 f.node,.int .i64 f.index],.slice (some ⟨g,0,none⟩) cnt cnt] W fun e w'=>e=.returned (.int .i64 x)/\je w kb V K w':=by
 obtain ⟨u1,u2,u3,u4,u5,u6⟩:=hu;have:=bn7 V kb ub c av tv bv th root f t b n m cnt g W (h.frame hF) hk (aq7 hown (Nat.zero_le _)) hgk hn1 hn8 u1 u2 u3 u4 u5 u6 hbits.1 hbits.2 hkids hrow;rw [hx] at this;refine this.mono ?_;rintro e w' ⟨he,hK⟩;exact ⟨he,hK.of (hF.mono (fun _=>False.elim)) rfl (fun k hk=>.inl hk)⟩
def nz:Value:=.agg #[.nilFunc,.func (.func 43) #[] #[],.func (.func 44) #[] #[],.func (.func 45) #[] #[],.func (.func 46) #[] #[],.func (.func 47) #[] #[],
 .func (.func 48) #[] #[],.func (.func 49) #[] #[],.func (.func 50) #[] #[],.func (.func 51) #[] #[],.func (.func 52) #[] #[],.func (.func 53) #[] #[]]
theorem ae9 (w:World):Calls Tryd.prog 29 #[] w fun e w'=>e=.returned nz/\Fr w w' (fun _=>False):=by
 go_enter Tryd.func29,Tryd.ntmps29
 go_wp2;refine bodyPost_ret (v:=nz) (by simp [results,Tryd.results29,go_sem,nz]) rfl ⟨rfl,(Fr.refl _ _).alloc _⟩
def ie (kb:Nat)(th:Int)(c:Cl)(av tv bv:Value):Array Value:=
 #[.pointer (some ⟨kb,0,none⟩),.int .i64 th,.agg (c.cells av tv),bv]
theorem a6_ (w:World)(c:Cl)(av tv:Value):Fr w (((w.alloc (.cells #[.int .i64 c.kind,av,tv,.int .i64 c.ty,.int .i64 c.bits,.int .i64 c.count,.int .i64 c.rights,.int .i64 c.badge,.int .i64 c.value,.int .i64 c.offset] 30)).alloc (.cells #[.int .i64 0] 3)).alloc (.cells #[.int .i64 0] 26)) (fun _=>False):=
 (((Fr.refl _ _).alloc _).alloc _).alloc _
theorem a62 {kb n:Nat}(h:kb<n):kb<n+1/\kb<n+1+1:=by omega
theorem bi2 (V:aj)(kb:Nat)(c:Cl)(av tv bv:Value)(th:Int)(w:World)(h:aw w kb V)(ht:V.ker.thr th=none):
 Calls Tryd.prog 12 (ie kb th c av tv bv) w fun e w'=>e=.returned (.tuple #[.int .i64 0,.int .i64 1])/\Fr w w' (fun _=>False):=by
 have hf0:=a6_ w c av tv;have hrun:=se (h.frame hf0 (fun _ _=>id)) th;have cr:=h.cr;have hlt:=World.block_lt_of_cell? _ _ cr;obtain ⟨hlt1,hlt2⟩:=a62 hlt;rw [ht] at hrun;dsimp only [Option.isSome] at hrun;unfold ie Cl.cells;go_enter Tryd.func12,Tryd.ntmps12
 go_wp2;refine bodyPost_ret (v:=.tuple #[.int .i64 0,.int .i64 1]) (by simp [results,Tryd.results12,go_sem]) rfl ⟨rfl,?_⟩;exact ((((Fr.refl _ _).alloc _).alloc _).alloc _).alloc _
theorem a32 (V:aj)(kb:Nat)(c:Cl)(av tv bv:Value)(th:Int)(w:World)(h:aw w kb V){t:mg}(ht:V.ker.thr th=some t)(hs:t.state≠1):
 Calls Tryd.prog 12 (ie kb th c av tv bv) w fun e w'=>e=.returned (.tuple #[.int .i64 0,.int .i64 1])/\Fr w w' (fun _=>False):=by
 have hf0:=a6_ w c av tv;have hrun:=se (h.frame hf0 (fun _ _=>id)) th;have cr:=h.cr;have hlt:=World.block_lt_of_cell? _ _ cr;obtain ⟨hlt1,hlt2⟩:=a62 hlt;rw [ht] at hrun;dsimp only [Option.isSome] at hrun;have hs1:decide (t.state=1)=false:=decide_eq_false hs;unfold ie Cl.cells;go_enter Tryd.func12,Tryd.ntmps12
 go_wp2;refine bodyPost_ret (v:=.tuple #[.int .i64 0,.int .i64 1]) (by simp [results,Tryd.results12,go_sem]) rfl ⟨rfl,?_⟩;exact ((((Fr.refl _ _).alloc _).alloc _).alloc _).alloc _
theorem b4_ (V:aj)(kb:Nat)(c:Cl)(av tv bv:Value)(th:Int)(w:World)(h:aw w kb V){t:mg}(ht:V.ker.thr th=some t)(hs:t.state=1)(hk:c.kind<1):
 Calls Tryd.prog 12 (ie kb th c av tv bv) w fun e w'=>e=.returned (.tuple #[.int .i64 0,.int .i64 7])/\Fr w w' (fun _=>False):=by
 have hf0:=a6_ w c av tv;have hrun:=se (h.frame hf0 (fun _ _=>id)) th;have cr:=h.cr;have hlt:=World.block_lt_of_cell? _ _ cr;obtain ⟨hlt1,hlt2⟩:=a62 hlt;rw [ht] at hrun;dsimp only [Option.isSome] at hrun;have hk1:decide (c.kind<1)=true:=decide_eq_true hk;unfold ie Cl.cells;go_enter Tryd.func12,Tryd.ntmps12
 go_wp2;refine bodyPost_ret (v:=.tuple #[.int .i64 0,.int .i64 7]) (by simp [results,Tryd.results12,go_sem]) rfl ⟨rfl,?_⟩;exact ((((Fr.refl _ _).alloc _).alloc _).alloc _).alloc _
theorem by9 (V:aj)(kb:Nat)(c:Cl)(av tv bv:Value)(th:Int)(w:World)(h:aw w kb V){t:mg}(ht:V.ker.thr th=some t)(hs:t.state=1)(hk:12<=c.kind):
 Calls Tryd.prog 12 (ie kb th c av tv bv) w fun e w'=>e=.returned (.tuple #[.int .i64 0,.int .i64 7])/\Fr w w' (fun _=>False):=by
 have hf0:=a6_ w c av tv;have hrun:=se (h.frame hf0 (fun _ _=>id)) th;have cr:=h.cr;have hlt:=World.block_lt_of_cell? _ _ cr;obtain ⟨hlt1,hlt2⟩:=a62 hlt;rw [ht] at hrun;dsimp only [Option.isSome] at hrun;have hk1:decide (c.kind<1)=false:=decide_eq_false (by omega);have hk2:decide (12<=c.kind)=true:=decide_eq_true hk;unfold ie Cl.cells;go_enter Tryd.func12,Tryd.ntmps12
 go_wp2;refine bodyPost_ret (v:=.tuple #[.int .i64 0,.int .i64 7]) (by simp [results,Tryd.results12,go_sem]) rfl ⟨rfl,?_⟩;exact ((((Fr.refl _ _).alloc _).alloc _).alloc _).alloc _
end Go.Proofs.YtdpjgflemddekaaDoor

/- The keeping statements: Doomed with what is doomed. -/
import Derived.Test.YtdpjgflemddekaaDoorMKeepP
import Derived.Test.YtdpjgflemddekaaDoorMKeepF
set_option maxRecDepth 100000
set_option maxHeartbeats 4000000
namespace Go.Proofs.YtdpjgflemddekaaDoor
open Go.RowKit Go.Shelf
theorem a79 (D:List (Int×Int)):∀u∈fl D,u.oneCell'=true:=by
 intro u hu;simp only [fl,List.mem_flatMap] at hu;obtain ⟨d,_,hu⟩:=hu;simp at hu;rcases hu with rfl | rfl<;>rfl
theorem aq6 (w:World):(w.alloc (.cells #[] 106)).ownsRow w.heap.size 106 2 (.slice (some ⟨w.heap.size,0,none⟩) 0 0) 0 []:=
 ⟨rfl,.inr ⟨w.heap.size,0,#[],rfl,Nat.le_refl _,heap_alloc_new _ _,Nat.le_refl _,by unfold maxLen;omega,rfl,rfl⟩⟩
theorem bj_ (g n cap:Nat)(row:List Value)(w:World)(hl:n<=900000)(hd:w.ownsRow 0 106 2 (.slice (some ⟨g,0,none⟩) n cap) n row)(hone:∀u∈row,u.oneCell'=true):
 Calls Tryd.prog 37 #[.slice (some ⟨g,0,none⟩) n cap] w fun e w'=>∃v,e=.returned v/\w'.ownsRow w.heap.size 106 2 v n row/\Fr w w' (fun _=>False):=by
 have hne:∀W,(binOp .eql 45 (.slice (some ⟨g,0,none⟩) n cap) (.slice none 0 0)).run Tryd.prog W=.ok (.bool false) W:=fun W=>by kernel_rfl
 obtain ⟨iD,hiD,hD0,hD1,hD2⟩:=info_parts az9;by_cases h0:n=0
 ·subst h0;have hr:row=[]:=List.eq_nil_of_length_eq_zero (by simpa using hd.1);subst hr;go_enter Tryd.func37,Tryd.ntmps37
  go_wp2;go_ret;exact ⟨_,rfl,aq6 w,(Fr.refl _ _).alloc _⟩
 ·have hdw:(w.alloc (.cells #[] 106)).ownsRow 0 106 2 (.slice (some ⟨g,0,none⟩) n cap) n row:=World.ownsRow.alloc hd _;have hpre:=aq6 w;obtain ⟨W,HW⟩:∃W,Hid (w.alloc (.cells #[] 106)=W):=⟨_,rfl⟩;have hFW:Fr w W (fun _=>False):=by rw [<- HW.out];exact (Fr.refl _ _).alloc _
  have hlW:w.heap.size<W.heap.size:=by rw [<- HW.out];simp
  rw [HW.out] at hdw hpre;go_enter Tryd.func37,Tryd.ntmps37
  go_wp2_with (at_builtin;rw [HW.out];go_must (refine wpList_append_lies _ rfl _ _ 45 rfl w.heap.size 106 iD _ 2 16 Tryd.underlying45 hiD hD0 hD1 hD2 rfl (by decide) (.slice (some ⟨w.heap.size,0,none⟩) 0 0) 0 [] rfl hpre ⟨g,0,none⟩ n cap row rfl hdw.1 (hdw.cells rfl) hone (by omega) (by unfold maxLen;omega) (by omega) (by omega) W.heap.size rfl ?_);intro g' c' W1 hown1 hg1 hat1 _)
  have hfr:Fr W W1 (fun k=>k=w.heap.size):=(Fr.refl _ _).grown hg1 (fun k hk=>.inl (by simpa [Value.ownBlock] using hk.symm))
  have hF:=hFW.step hfr (fun k hk=>.inr (by omega))
  rw [Nat.zero_add,List.nil_append] at hown1;clear hg1 hat1 hpre hdw hne;go_wp2;go_ret;exact ⟨_,by first | rfl | (rw [Nat.zero_add];rfl),hown1,hF⟩
theorem ae4 (S:KS)(V:aj)(kb:Nat)(w:World)(h:KD w kb S V)(hl:S.D.length<=900000):
 Calls Tryd.prog 17 #[.pointer (some ⟨kb,0,none⟩)] w fun e w'=>∃v,e=.returned v/\w'.ownsRow w.heap.size 106 2 v S.D.length (fl S.D)/\Fr w w' (fun _=>False):=by
 rcases h.d.2 with ⟨e,e2⟩ | ⟨g,cap,cur,e,_⟩
 ·refine (bc5 V kb w h.ker e).mono ?_;rintro e w' ⟨he,hf⟩;have:S.D=[]:=List.eq_nil_of_length_eq_zero e2;rw [this];exact ⟨_,he,World.ownsRow_nil _ _ _ _,hf⟩
 ·have e:V.dv=.slice (some ⟨g,0,none⟩) S.D.length cap:=e;obtain ⟨c,hc,hcc⟩:=h.ker.blk;have hd:=h.d;rw [e] at hd;have c1:w.cell? ⟨kb,1027,none⟩=some (.slice (some ⟨g,0,none⟩) S.D.length cap):=by rw [<- e];exact aa hc hcc.d
  have hcl:=bj_ g S.D.length cap (fl S.D) w hl hd (a79 _);clear hd hc hcc e;generalize S.D.length=n at *
  generalize fl S.D=row at *
  go_enter Tryd.func17,Tryd.ntmps17
  go_wp2_with (go_at_call 37;refine hcl.mono ?_;rintro e w' ⟨v,rfl,hv,hf⟩)
  go_ret;exact ⟨v,rfl,hv,hf⟩
theorem KR.doomed {w0 W:World}{kb:Nat}{R:RS}(h:KR w0 W kb R):
 Calls Tryd.prog 17 #[.pointer (some ⟨kb,0,none⟩)] W fun e w'=>∃v,e=.returned v/\jx w' ay8 2 v R.D/\Fr W w' (fun _=>False):=by
 obtain ⟨⟨K,D⟩,V,h1,h2,h3,h4,h5⟩:=h;have hD:D=R.D:=h1.d;have hlD:=h1.core.lenD;refine (ae4 ⟨K,D⟩ V kb W h3.kd (by simp only [hD];omega)).mono ?_;rintro e w' ⟨v,he,hv,hf⟩;simp only [hD] at hv;exact ⟨v,he,el (f:=ay8) (fun _=>rfl) hv,hf⟩
theorem KR.capsL {w0 W:World}{kb:Nat}{R:RS}(h:KR w0 W kb R)(hgl:fm w0):
 Calls Tryd.prog 16 #[.pointer (some ⟨kb,0,none⟩)] W fun e w'=>∃v,e=.returned v/\jx w' ee.vals 10 v (capsL R)/\(∀k,v.ownBlock=some k->W.heap.size<=k)/\Fr W w' (fun _=>False):=by
 refine (h.caps hgl).mono ?_;rintro e w' ⟨v,he,hv,hf⟩;exact ⟨v,he,el (f:=ee.vals) ee.vals_len (L:=Proofs.YtdpjgflemddekaaDoor.capsL R) (by rw [e_];exact hv),fun k hk=>(hv.lt k hk).1,hf⟩
def I64 (c:Int):Prop:=-9223372036854775808<=c/\c<=9223372036854775807
theorem I64.wrap (x:Int):I64 (wrap64 x):=by unfold I64 wrap64;omega
theorem pk {c n:Int}(W:World)(h:I64 c)(h0:0<n)(h1:n<=4294967296):Calls Tryd.prog 13 #[.int .i64 c,.int .i64 n] W fun e w'=>e=.returned (.int .i64 (dq c n))/\w'=W:=vh c n W h.1 h.2 h0 h1
theorem br7 {w:World}{b:Nat}{x y:Int}{t:TypeId}(h:w.heap[b]?=some (.cells #[.int .i64 x,.int .i64 y] t (0,0))):c_ w (.slice (some ⟨b,0,none⟩) 2 2) [x,y]:=by
 refine ⟨_,_,rfl,fun _=>⟨b,0,rfl,fun i hi=>?_⟩⟩
 have:i=0\/i=1:=by simp at hi;omega
 rcases this with rfl | rfl
 ·exact aa (o:=0) h rfl
 ·exact aa (o:=1) h rfl
def am8 (c:Int):List Int:=if 0<dq (wrap64 (c.tdiv 16)) 4 then [dq c 16] else [dq c 16,dq (wrap64 (c.tdiv 64)) 16]
theorem qd (c:Int)(w:World)(h:I64 c):
 Calls Tryd.prog 38 #[.int .i64 c] w fun e w'=>∃l:List Int,∃g,e=.returned (.slice (some ⟨g,0,none⟩) l.length l.length)/\c_ w' (.slice (some ⟨g,0,none⟩) l.length l.length) l/\l.length<=2/\0<l.length/\w.heap.size<=g/\Fr w w' (fun _=>False)/\Hid (l=am8 c):=by
 go_enter Tryd.func38,Tryd.ntmps38
 go_upto_region 2 with (go_at_call 13;refine (pk _ h (by decide) (by decide)).mono ?_;rintro e w' ⟨rfl,rfl⟩)
 obtain ⟨p,Hp⟩:∃p,Hid (dq c 16=p):=⟨_,rfl⟩;rw [Hp.out];go_wp2_with (go_at_call 13;refine (pk _ (I64.wrap _) (by decide) (by decide)).mono ?_;rintro e w' ⟨rfl,rfl⟩)
 ·go_ret;exact ⟨[p],_,rfl,zo (heap_alloc_new _ _),by simp,by simp,Nat.le_refl _,(Fr.refl _ _).alloc _,by show _=_;unfold am8;rw [if_pos (by first | assumption | omega),Hp.out]⟩
 ·go_ret;exact ⟨[p,_],_,rfl,br7 (heap_alloc_new _ _),by simp,by simp,Nat.le_refl _,(Fr.refl _ _).alloc _,by show _=_;unfold am8;rw [if_neg (by first | assumption | omega),Hp.out]⟩
theorem a67:(Tryd.prog.info? 3).map (fun i=>(i.zero,i.size,i.bytes))=some (some (.int .i64 0),1,8):=by kernel_rfl
def ar3 (T:Int->Option mg):Nat->List Int
 | 0=>[]
 | k+1=>if (T (16*k)).isSome then ar3 T k++[(16*k:Int)] else ar3 T k
def ay1 (l:List Int)(c:Int):Int:=if l.length=0 then 64 else l[(dq c l.length).toNat]?.getD 0
def bb_ (R:RS)(c:Int):Int:=ay1 (ar3 (fun b=>(R.R.T.find? (ao b)).map gh.thd) 64) c
theorem am4 {w0 W:World}{kb:Nat}{R:RS}(h:KR w0 W kb R)(c:Int)(hc:I64 c):
 Calls Tryd.prog 19 #[.pointer (some ⟨kb,0,none⟩),.int .i64 c] W fun e w'=>∃n:Int,e=.returned (.int .i64 n)/\Fr W w' (fun _=>False)/\Hid (n=bb_ R c):=by
 have ht:∀W' b,Fr W W' (fun _=>False)->Calls Tryd.prog 14 #[.pointer (some ⟨kb,0,none⟩),.int .i64 b] W' fun e w'=>e=mz ((R.R.T.find? (ao b)).map gh.thd)/\Fr W' w' (fun _=>False):=fun W' b hf=>(h.next hf).thread b
 obtain ⟨T,HT⟩:∃T,Hid ((fun b=>(R.R.T.find? (ao b)).map gh.thd)=T):=⟨_,rfl⟩
 have ht:∀W' b,Fr W W' (fun _=>False)->Calls Tryd.prog 14 #[.pointer (some ⟨kb,0,none⟩),.int .i64 b] W' fun e w'=>e=mz (T b)/\Fr W' w' (fun _=>False):=fun W' b hf=>by rw [<- HT.out];exact ht W' b hf
 clear h;go_enter Tryd.func19,Tryd.ntmps19
 go_wp2;go_loopw [5,6] (fun lv nv w'=>Fr W w' (fun _=>False)/\∃k:Nat,∃l:List Int,k<=64/\nv=.int .i64 (16*k)/\Hid (l=ar3 T k)/\l.length<=k/\w'.ownsRow W.heap.size 3 1 lv l.length (l.map (fun x=>.int .i64 x))) (fun _ nv _=>64-(intOf nv).toNat / 16)
 case atStart=>exact ⟨Fr.refl _ _,0,[],by omega,rfl,(by show _=_;rfl),by simp,World.ownsRow_nil _ _ _ _⟩
 case round=>
  obtain ⟨hf,k,l,hk,rfl,HL,hl,ho⟩:=hrel;by_cases hlt:k<64
  ·have htk:=ht _ (16*k) hf;obtain ⟨tk,Htk⟩:∃tk,Hid (T (16*k)=tk):=⟨_,rfl⟩;rw [Htk.out] at htk;cases tk with
   | none=>
    simp only [mz] at htk;go_wp2_with (go_at_call 14;refine htk.mono ?_;rintro e W1 ⟨rfl,hf1⟩)
    go_roundw;case rel=>exact ⟨(hf.step hf1 (fun _=>False.elim)).alloc _,k+1,l,by omega,by go_num,(by show _=_;rw [ar3,Htk.out,HL.out];rfl),by omega,World.ownsRow.alloc (hf1.owns ho (fun _ _=>id)) _⟩
    case measure=>simp [intOf];omega
   | some t=>
    simp only [mz] at htk;obtain ⟨A,cap,hlv⟩:=ed ho;subst hlv;obtain ⟨iI,hiI,hI0,hI1,hI2⟩:=info_parts a67;go_wp2_with (first
     |(go_at_call 14;refine htk.mono ?_;rintro e W1 ⟨rfl,hf1⟩)
     |(at_builtin;go_must (refine wpList_append_lies _ rfl _ _ 22 rfl W.heap.size 3 iI _ 1 8 Tryd.underlying22 hiI hI0 hI1 hI2 rfl (by decide) (.slice A l.length cap) l.length (l.map (fun x=>.int .i64 x)) rfl (World.ownsRow.alloc (World.ownsRow.alloc (hf1.owns ho (fun _ _=>id)) _) _) ⟨_,0,none⟩ 1 1 [.int .i64 (16*k)] rfl rfl (bi0 _ _ _ _ (by simp)) (by intro u hu;simp at hu;subst hu;rfl) (by decide) (by unfold maxLen;omega) (by omega) (by have:=hf.size;have:=hf1.size;simp;omega) _ rfl ?_);intro g' c' W2 hown1 hg1 hat1 _))
    have hF2:Fr W W2 (fun _=>False):=(((hf.step hf1 (fun _=>False.elim)).alloc _).alloc _).grown hg1 (fun j hj=>.inr (ho.lt j hj).1)
    have e1:(l.map (fun x=>Value.int .i64 x))++[.int .i64 (16*k)]=(l++[(16*k:Int)]).map (fun x=>.int .i64 x):=by simp
    rw [e1] at hown1;clear hg1 hat1 ho htk ht;go_wp2;go_roundw;case rel=>exact ⟨hF2,k+1,l++[(16*k:Int)],by omega,by go_num,(by show _=_;rw [ar3,Htk.out,HL.out];rfl),by simp;omega,by rw [List.length_append];exact hown1⟩
    case measure=>simp [intOf];omega
  ·have hk:k=64:=by omega
   subst hk;obtain ⟨A,cap,hlv⟩:=ed ho;subst hlv;obtain ⟨n,hn⟩:∃n,Hid (l.length=n):=⟨_,rfl⟩;have hn64:n<=64:=by rw [<- hn.out];exact hl
   rw [hn.out] at ho ⊢;by_cases h0:n=0
   ·subst h0;clear ho;go_wp2;go_ret;exact ⟨_,rfl,hf,by show _=_;unfold bb_;rw [HT.out];unfold ay1;rw [<- HL.out,if_pos hn.out]⟩
   ·obtain ⟨g,cap',e,hg,hb⟩:=ho.form (by omega);cases e
    have hr:=ng c n (by omega);have hpk:=pk wr hc (n:=(n:Int)) (by omega) (by omega);obtain ⟨r,Hr⟩:∃r,Hid (dq c n=r):=⟨_,rfl⟩;rw [Hr.out] at hr hpk;obtain ⟨r,rfl⟩:=Int.eq_ofNat_of_zero_le hr.1;have hrl:r<l.length:=by rw [hn.out];omega
    have hcr:wr.cell? ⟨g,r,none⟩=some (.int .i64 l[r]):=by
     have:=(ho.cells rfl) r (.int .i64 l[r]) (by simp [hrl]);simpa [am_] using this
    have hr2:r<n:=by omega
    clear ho;go_wp2_with (go_at_call 13;refine hpk.mono ?_;rintro e w' ⟨rfl,rfl⟩)
    go_ret;exact ⟨_,rfl,hf,by show _=_;unfold bb_;rw [HT.out];unfold ay1;rw [<- HL.out,if_neg (by rw [hn.out];exact h0),hn.out,Hr.out];simp [hrl]⟩
theorem I64.wrapk (x:Int):I64 (IntKind.i64.wrap x):=by
 unfold I64;simp only [IntKind.wrap,IntKind.bits,IntKind.signed];simp;split<;>omega
structure j8 where
 thread:Int
 kind:Int
 a:Int
 b:Int
 c:Int
 d:Int
 bits:List Bool
structure j8.Ok (x:j8):Prop where
 thread:I64 x.thread
 kind:I64 x.kind
 a:I64 x.a
 b:I64 x.b
 c:I64 x.c
 d:I64 x.d
def j8.val (x:j8)(bv:Value):Value:=.agg #[.int .i64 x.thread,.int .i64 x.kind,.int .i64 x.a,.int .i64 x.b,.int .i64 x.c,.int .i64 x.d,bv]
def bp8 (p:Int):Int×Int:=if p=0 then (4,5) else if p=1 then (3,3) else if p=2 then (2,1) else if p=3 then (4,1) else (2,4)
def bn1 (x:j8):Cl:=⟨1+dq x.kind 11,am8 x.a,am8 x.b,1+dq x.c 5,IntKind.i64.wrap ((bp8 (dq x.c 5)).1+dq (IntKind.i64.wrap (x.c.tdiv 5)) (bp8 (dq x.c 5)).2),wrap64 (1+dq (wrap64 (x.c.tdiv 25)) 3),dq x.d 8,wrap64 (1+dq (wrap64 (x.d.tdiv 8)) 9),dq (wrap64 (x.d.tdiv 8)) 1000,dq (wrap64 (x.c.tdiv 5)) 8⟩
structure b18 (w w':World)(x:j8)(c:Cl)(av tv:Value):Prop where
 at_:c_ w' av c.at_
 ti:c_ w' tv c.to
 al:c.at_.length<=2
 tl:c.to.length<=2
 ac:∀A n cap,av=.slice A n cap->n<=cap
 tc:∀A n cap,tv=.slice A n cap->n<=cap
 ba:∀k,av.ownBlock=some k->w.heap.size<=k
 bt:∀k,tv.ownBlock=some k->w.heap.size<=k
 kind:c.kind=1+dq x.kind 11
 fr:Fr w w' (fun _=>False)
 eq:Hid (c=bn1 x)
theorem dj {W:World}{B:Nat}{x0 x1 x2 x3 x4 x5:Int}{x6:Value}{ty:TypeId}(h:W.heap[B]?=some (.cells #[.int .i64 x0,.int .i64 x1,.int .i64 x2,.int .i64 x3,.int .i64 x4,.int .i64 x5,x6] ty (0,0))):
 W.cell? ⟨B,0,none⟩=some (.int .i64 x0)/\W.cell? ⟨B,1,none⟩=some (.int .i64 x1)/\W.cell? ⟨B,2,none⟩=some (.int .i64 x2)/\W.cell? ⟨B,3,none⟩=some (.int .i64 x3)/\W.cell? ⟨B,4,none⟩=some (.int .i64 x4)/\W.cell? ⟨B,5,none⟩=some (.int .i64 x5)/\W.cell? ⟨B,6,none⟩=some x6:=
 ⟨aa (o:=0) h rfl,aa (o:=1) h rfl,aa (o:=2) h rfl,aa (o:=3) h rfl,aa (o:=4) h rfl,aa (o:=5) h rfl,aa (o:=6) h rfl⟩
structure aa9 (w W:World)(la:List Int)(ga:Nat)(lt:List Int)(gt B3:Nat):Prop where
 ia:c_ w (.slice (some ⟨ga,0,none⟩) la.length la.length) la
 it:c_ w (.slice (some ⟨gt,0,none⟩) lt.length lt.length) lt
 la2:la.length<=2
 lt2:lt.length<=2
 fa:W.heap.size<=ga
 ft:W.heap.size<=gt
 na:ga≠B3
 nt:gt≠B3
theorem aa5 {W:World}{b:Nat}{y0 y1 y2 y3 y4 y5 y6 y7 y8 y9 x0 x1 x2 x3 x4 x5 x6 x7 x8 x9:Value}{t:TypeId}(h:W.heap[b]?=some (.cells #[y0,y1,y2,y3,y4,y5,y6,y7,y8,y9] t (0,0))):((((((((((W.setCell ⟨b,0,none⟩ x0).setCell ⟨b,1,none⟩ x1).setCell ⟨b,2,none⟩ x2).setCell ⟨b,3,none⟩ x3).setCell ⟨b,4,none⟩ x4).setCell ⟨b,5,none⟩ x5).setCell ⟨b,6,none⟩ x6).setCell ⟨b,7,none⟩ x7).setCell ⟨b,8,none⟩ x8).setCell ⟨b,9,none⟩ x9).heap[b]?=some (.cells #[x0,x1,x2,x3,x4,x5,x6,x7,x8,x9] t (0,0)):=by
 have h1:(W.setCell ⟨b,0,none⟩ x0).heap[b]?=some (.cells #[x0,y1,y2,y3,y4,y5,y6,y7,y8,y9] t (0,0)):=au _ b 0 x0 h;have h2:((W.setCell ⟨b,0,none⟩ x0).setCell ⟨b,1,none⟩ x1).heap[b]?=some (.cells #[x0,x1,y2,y3,y4,y5,y6,y7,y8,y9] t (0,0)):=au _ b 1 x1 h1;have h3:(((W.setCell ⟨b,0,none⟩ x0).setCell ⟨b,1,none⟩ x1).setCell ⟨b,2,none⟩ x2).heap[b]?=some (.cells #[x0,x1,x2,y3,y4,y5,y6,y7,y8,y9] t (0,0)):=au _ b 2 x2 h2;have h4:((((W.setCell ⟨b,0,none⟩ x0).setCell ⟨b,1,none⟩ x1).setCell ⟨b,2,none⟩ x2).setCell ⟨b,3,none⟩ x3).heap[b]?=some (.cells #[x0,x1,x2,x3,y4,y5,y6,y7,y8,y9] t (0,0)):=au _ b 3 x3 h3;have h5:(((((W.setCell ⟨b,0,none⟩ x0).setCell ⟨b,1,none⟩ x1).setCell ⟨b,2,none⟩ x2).setCell ⟨b,3,none⟩ x3).setCell ⟨b,4,none⟩ x4).heap[b]?=some (.cells #[x0,x1,x2,x3,x4,y5,y6,y7,y8,y9] t (0,0)):=au _ b 4 x4 h4;have h6:((((((W.setCell ⟨b,0,none⟩ x0).setCell ⟨b,1,none⟩ x1).setCell ⟨b,2,none⟩ x2).setCell ⟨b,3,none⟩ x3).setCell ⟨b,4,none⟩ x4).setCell ⟨b,5,none⟩ x5).heap[b]?=some (.cells #[x0,x1,x2,x3,x4,x5,y6,y7,y8,y9] t (0,0)):=au _ b 5 x5 h5;have h7:(((((((W.setCell ⟨b,0,none⟩ x0).setCell ⟨b,1,none⟩ x1).setCell ⟨b,2,none⟩ x2).setCell ⟨b,3,none⟩ x3).setCell ⟨b,4,none⟩ x4).setCell ⟨b,5,none⟩ x5).setCell ⟨b,6,none⟩ x6).heap[b]?=some (.cells #[x0,x1,x2,x3,x4,x5,x6,y7,y8,y9] t (0,0)):=au _ b 6 x6 h6;have h8:((((((((W.setCell ⟨b,0,none⟩ x0).setCell ⟨b,1,none⟩ x1).setCell ⟨b,2,none⟩ x2).setCell ⟨b,3,none⟩ x3).setCell ⟨b,4,none⟩ x4).setCell ⟨b,5,none⟩ x5).setCell ⟨b,6,none⟩ x6).setCell ⟨b,7,none⟩ x7).heap[b]?=some (.cells #[x0,x1,x2,x3,x4,x5,x6,x7,y8,y9] t (0,0)):=au _ b 7 x7 h7;have h9:(((((((((W.setCell ⟨b,0,none⟩ x0).setCell ⟨b,1,none⟩ x1).setCell ⟨b,2,none⟩ x2).setCell ⟨b,3,none⟩ x3).setCell ⟨b,4,none⟩ x4).setCell ⟨b,5,none⟩ x5).setCell ⟨b,6,none⟩ x6).setCell ⟨b,7,none⟩ x7).setCell ⟨b,8,none⟩ x8).heap[b]?=some (.cells #[x0,x1,x2,x3,x4,x5,x6,x7,x8,y9] t (0,0)):=au _ b 8 x8 h8;have h10:((((((((((W.setCell ⟨b,0,none⟩ x0).setCell ⟨b,1,none⟩ x1).setCell ⟨b,2,none⟩ x2).setCell ⟨b,3,none⟩ x3).setCell ⟨b,4,none⟩ x4).setCell ⟨b,5,none⟩ x5).setCell ⟨b,6,none⟩ x6).setCell ⟨b,7,none⟩ x7).setCell ⟨b,8,none⟩ x8).setCell ⟨b,9,none⟩ x9).heap[b]?=some (.cells #[x0,x1,x2,x3,x4,x5,x6,x7,x8,x9] t (0,0)):=au _ b 9 x9 h9;exact h10
theorem ak0 (W:World)(b:Nat)(x0 x1 x2 x3 x4 x5 x6 x7 x8 x9:Value):Fr W ((((((((((W.setCell ⟨b,0,none⟩ x0).setCell ⟨b,1,none⟩ x1).setCell ⟨b,2,none⟩ x2).setCell ⟨b,3,none⟩ x3).setCell ⟨b,4,none⟩ x4).setCell ⟨b,5,none⟩ x5).setCell ⟨b,6,none⟩ x6).setCell ⟨b,7,none⟩ x7).setCell ⟨b,8,none⟩ x8).setCell ⟨b,9,none⟩ x9) (fun k=>k=b):=
 Fr.setCell (S:=fun k=>k=b) (Fr.setCell (S:=fun k=>k=b) (Fr.setCell (S:=fun k=>k=b) (Fr.setCell (S:=fun k=>k=b) (Fr.setCell (S:=fun k=>k=b) (Fr.setCell (S:=fun k=>k=b) (Fr.setCell (S:=fun k=>k=b) (Fr.setCell (S:=fun k=>k=b) (Fr.setCell (S:=fun k=>k=b) (Fr.setCell (S:=fun k=>k=b) (Fr.refl W (fun k=>k=b)) (.inl rfl) 0 x0) (.inl rfl) 1 x1) (.inl rfl) 2 x2) (.inl rfl) 3 x3) (.inl rfl) 4 x4) (.inl rfl) 5 x5) (.inl rfl) 6 x6) (.inl rfl) 7 x7) (.inl rfl) 8 x8) (.inl rfl) 9 x9
structure j4 (w W wc:World)(Ba Bb B3:Nat)(act cs:Array Value)(la:List Int)(ga:Nat)(lt:List Int)(gt:Nat):Prop where
 b3:wc.heap[B3]?=some (.cells cs 30 (0,0))
 ba:wc.heap[Ba]?=some (.cells act 42 (0,0))
 bb:wc.heap[Bb]?=some (.cells #[.int .i64 0,.slice none 0 0,.slice none 0 0,.int .i64 0,.int .i64 0,.int .i64 0,.int .i64 0,.int .i64 0,.int .i64 0,.int .i64 0] 30 (0,0))
 fr:Fr w wc (fun _=>False)
 mid:aa9 wc W la ga lt gt B3
 n1:B3≠Ba
 n2:B3≠Bb
 n3:w.heap.size<=B3
theorem aa9.fr {w w' W:World}{la:List Int}{ga:Nat}{lt:List Int}{gt B3:Nat}(h:aa9 w W la ga lt gt B3){S:Nat->Prop}(hf:Fr w w' S)(hS:∀k,S k->k=B3):aa9 w' W la ga lt gt B3:=
 ⟨h.ia.frk hf (fun _ k hk e=>h.na ((ka hk).trans (hS k e))),h.it.frk hf (fun _ k hk e=>h.nt ((ka hk).trans (hS k e))),h.la2,h.lt2,h.fa,h.ft,h.na,h.nt⟩
theorem j4.set {w W wc:World}{Ba Bb B3:Nat}{act cs:Array Value}{la:List Int}{ga:Nat}{lt:List Int}{gt:Nat}(h:j4 w W wc Ba Bb B3 act cs la ga lt gt)(o:Nat)(v:Value):j4 w W (wc.setCell ⟨B3,o,none⟩ v) Ba Bb B3 act (cs.setIfInBounds o v) la ga lt gt:=
 ⟨au _ B3 o v h.b3,(Fr.set1 wc B3 o v).same h.ba (fun e=>h.n1 e.symm),(Fr.set1 wc B3 o v).same h.bb (fun e=>h.n2 e.symm),h.fr.step (Fr.set1 wc B3 o v) (fun k e=>.inr (by rw [e];exact h.n3)),h.mid.fr (Fr.set1 wc B3 o v) (fun _ e=>e),h.n1,h.n2,h.n3⟩
theorem j4.next {w W wc wc':World}{Ba Bb B3:Nat}{act cs:Array Value}{la:List Int}{ga:Nat}{lt:List Int}{gt:Nat}(h:j4 w W wc Ba Bb B3 act cs la ga lt gt)(hf:Fr wc wc' (fun _=>False)):j4 w W wc' Ba Bb B3 act cs la ga lt gt:=
 ⟨hf.same h.b3 id,hf.same h.ba id,hf.same h.bb id,h.fr.step hf (fun _=>False.elim),h.mid.fr hf (fun _=>False.elim),h.n1,h.n2,h.n3⟩
theorem j4.gen {P:World->Prop}{w W wc:World}{Ba Bb B3:Nat}{act cs:Array Value}{la:List Int}{ga:Nat}{lt:List Int}{gt:Nat}(st:j4 w W wc Ba Bb B3 act cs la ga lt gt)(j:Nat)(y:Int)(h:∀wd,j4 w W wd Ba Bb B3 act (cs.setIfInBounds j (.int .i64 y)) la ga lt gt->P wd):P (wc.setCell ⟨B3,j,none⟩ (.int .i64 y)):=h _ (st.set j _)
theorem az5 {W:World}{b:Nat}{x0 x1 x2 x3 x4 x5 x6 x7 x8 x9:Value}{tmps:Array Value}(h:W.heap[b]?=some (.cells #[x0,x1,x2,x3,x4,x5,x6,x7,x8,x9] 30 (0,0)))(ht:tmps[2]?=some (.pointer (some ⟨b,0,none⟩))):
 (results Tryd.f18 tmps).run Tryd.prog W=.ok (.agg #[x0,x1,x2,x3,x4,x5,x6,x7,x8,x9]) W:=by
 obtain ⟨k0,k1,k2,k3,k4,k5,k6,k7,k8,k9⟩:=zi h;simp [results,Tryd.results18,go_sem,ht,k0,k1,k2,k3,k4,k5,k6,k7,k8,k9]
def iz (Ba:Nat)(x1 x2 x3:Int)(w':World):Prop:=w'.cell? ⟨Ba,1,none⟩=some (.int .i64 x1)/\w'.cell? ⟨Ba,2,none⟩=some (.int .i64 x2)/\w'.cell? ⟨Ba,3,none⟩=some (.int .i64 x3)
theorem au9 (x:j8)(bv:Value)(w:World)(hx:x.Ok):
 Calls Tryd.prog 18 #[x.val bv] w fun e w'=>∃c av tv,e=.returned (.agg (Cl.cells c av tv))/\b18 w w' x c av tv:=by
 obtain ⟨x0,x1,x2,x3,x4,x5,xb⟩:=x;obtain ⟨i0,i1,i2,i3,i4,i5⟩:=hx;dsimp only at i0 i1 i2 i3 i4 i5;unfold j8.val;dsimp only;obtain ⟨hf,hsz,hba,hbb⟩:=m6 (w:=w) (a:=.cells #[.int .i64 x0,.int .i64 x1,.int .i64 x2,.int .i64 x3,.int .i64 x4,.int .i64 x5,bv] 42) (b:=.cells #[.int .i64 0,.slice none 0 0,.slice none 0 0,.int .i64 0,.int .i64 0,.int .i64 0,.int .i64 0,.int .i64 0,.int .i64 0,.int .i64 0] 30) rfl;go_enter Tryd.func18,Tryd.ntmps18
 go_upto_region 1 with fail
 generalize (w.alloc _).alloc _=W at hf hba hbb hsz ⊢;obtain ⟨a0,a1,a2,a3,a4,a5,a6⟩:=dj hba;have hBb:w.heap.size<=w.heap.size+1:=by omega
 generalize hB2:w.heap.size+1=Bb at hbb hBb ⊢;have hne:w.heap.size≠Bb:=by omega
 have hBa:w.heap.size<=w.heap.size:=Nat.le_refl _;generalize hB1:w.heap.size=Ba at hba hne a0 a1 a2 a3 a4 a5 a6 ⊢;have hk:=ng x1 11 (by decide);have hpk:=fun W=>pk (n:=11) W i1 (by decide) (by decide)
 obtain ⟨kd,Hkd⟩:∃kd,Hid (dq x1 11=kd):=⟨_,rfl⟩;rw [Hkd.out] at hk;simp only [Hkd.out] at hpk;go_cut [3] (fun v3 wx=>∃(B3:Nat) (la:List Int) (ga:Nat) (lt:List Int) (gt:Nat),v3=.pointer (some ⟨B3,0,none⟩)/\wx.heap[B3]?=some (.cells #[.int .i64 (1+kd),.slice (some ⟨ga,0,none⟩) la.length la.length,.slice (some ⟨gt,0,none⟩) lt.length lt.length,.int .i64 0,.int .i64 0,.int .i64 0,.int .i64 0,.int .i64 0,.int .i64 0,.int .i64 0] 30 (0,0))/\W.heap.size<=B3/\Fr W wx (fun _=>False)/\aa9 wx W la ga lt gt B3/\Hid (la=am8 x2)/\Hid (lt=am8 x3))
 case first=>
  have hwk:IntKind.i64.wrap (1+kd)=1+kd:=l_ _ (by omega) (by omega);have hFW0:=(Fr.refl W (fun _=>False)).drew;have hSW0:iz Ba x1 x2 x3 W.drew:=⟨a1,a2,a3⟩;refine wp_region_noPanic ?_;refine wp_region_held_drew (S:=iz Ba x1 x2 x3) (by kernel_rfl) hSW0 (fun hHeld=>?_);have hW0s:W.heap.size=W.drew.heap.size:=rfl;generalize W.drew=W0 at *
  refine wpAnyH_take (i:=0) (oi:={dst:=some 6,op:=Op.fieldAddr 42 (Operand.tmp 1) 1,type:=0,pos:= "keep.go:55",after:=#[],guard:=none}) (v:=.pointer (some ⟨Ba,1,none⟩)) rfl (by kernel_rfl) (by kernel_rfl) (by kernel_rfl) (fun _ _ _ h=>h) (Or.inl ⟨by rfl,?_⟩) hHeld ?_
  ·intro w hSw;unfold iz at hSw;go_simp
  simp only [Act.put,List.setIfInBounds_toArray,List.set_cons_zero,List.set_cons_succ];refine wpAnyH_take (i:=4) (oi:={dst:=some 10,op:=Op.fieldAddr 42 (Operand.tmp 1) 2,type:=0,pos:= "keep.go:55",after:=#[],guard:=none}) (v:=.pointer (some ⟨Ba,2,none⟩)) rfl (by kernel_rfl) (by kernel_rfl) (by kernel_rfl) (fun _ _ _ h=>h) (Or.inl ⟨by rfl,?_⟩) hHeld ?_
  ·intro w hSw;unfold iz at hSw;go_simp
  simp only [Act.put,List.setIfInBounds_toArray,List.set_cons_zero,List.set_cons_succ];refine wpAnyH_take (i:=7) (oi:={dst:=some 13,op:=Op.fieldAddr 42 (Operand.tmp 1) 3,type:=0,pos:= "keep.go:55",after:=#[],guard:=none}) (v:=.pointer (some ⟨Ba,3,none⟩)) rfl (by kernel_rfl) (by kernel_rfl) (by kernel_rfl) (fun _ _ _ h=>h) (Or.inl ⟨by rfl,?_⟩) hHeld ?_
  ·intro w hSw;unfold iz at hSw;go_simp
  simp only [Act.put,List.setIfInBounds_toArray,List.set_cons_zero,List.set_cons_succ];refine wpAnyH_take (i:=1) (oi:={dst:=some 7,op:=Op.load 3 (Operand.tmp 6),type:=3,pos:= "keep.go:55",after:=#[{on:=0,ground:=Ground.data}],guard:=none}) (v:=.int .i64 x1) rfl (by kernel_rfl) (by kernel_rfl) (by kernel_rfl) (fun _ _ _ h=>h) (Or.inl ⟨by rfl,?_⟩) hHeld ?_
  ·intro w hSw;unfold iz at hSw;go_simp
  simp only [Act.put,List.setIfInBounds_toArray,List.set_cons_zero,List.set_cons_succ];refine wpAnyH_take (i:=5) (oi:={dst:=some 11,op:=Op.load 3 (Operand.tmp 10),type:=3,pos:= "keep.go:55",after:=#[{on:=4,ground:=Ground.data}],guard:=none}) (v:=.int .i64 x2) rfl (by kernel_rfl) (by kernel_rfl) (by kernel_rfl) (fun _ _ _ h=>h) (Or.inl ⟨by rfl,?_⟩) hHeld ?_
  ·intro w hSw;unfold iz at hSw;go_simp
  simp only [Act.put,List.setIfInBounds_toArray,List.set_cons_zero,List.set_cons_succ];refine wpAnyH_take (i:=8) (oi:={dst:=some 14,op:=Op.load 3 (Operand.tmp 13),type:=3,pos:= "keep.go:55",after:=#[{on:=7,ground:=Ground.data}],guard:=none}) (v:=.int .i64 x3) rfl (by kernel_rfl) (by kernel_rfl) (by kernel_rfl) (fun _ _ _ h=>h) (Or.inl ⟨by rfl,?_⟩) hHeld ?_
  ·intro w hSw;unfold iz at hSw;go_simp
  simp only [Act.put,List.setIfInBounds_toArray,List.set_cons_zero,List.set_cons_succ];refine wpAnyH_ready (rs:=[2,11]) (by kernel_rfl) (by simp) ?_;refine AllReadyH.cons rfl (fun K hK=>?_) (AllReadyH.cons rfl (fun K hK=>?_) AllReadyH.nil)
  ·go_simp
   refine (hpk _).mono ?_;rintro e w1 ⟨rfl,he1⟩;obtain rfl:=he1.symm;refine hK.out _ _ hSW0 (fun hHeld=>?_);clear hK K;refine wpAnyH_take (i:=3) (oi:={dst:=some 9,op:=Op.binOp BinOp.add 3 (Operand.const (Value.int IntKind.i64 1)) (Operand.tmp 8) 3,type:=3,pos:= "keep.go:55",after:=#[{on:=2,ground:=Ground.data}],guard:=none}) (v:=.int .i64 (IntKind.i64.wrap (1+kd))) rfl (by kernel_rfl) (by kernel_rfl) (by kernel_rfl) (fun _ _ _ h=>h) (Or.inl ⟨by rfl,?_⟩) hHeld ?_
   ·intro w hSw;unfold iz at hSw;go_simp
   simp only [Act.put,List.setIfInBounds_toArray,List.set_cons_zero,List.set_cons_succ];refine wpAnyH_ready (rs:=[6,11]) (by kernel_rfl) (by simp) ?_;refine AllReadyH.cons rfl (fun K hK=>?_) (AllReadyH.cons rfl (fun K hK=>?_) AllReadyH.nil)
   ·go_simp
    refine (qd _ _ i2).mono ?_;rintro e V2 ⟨la,ga,rfl,ha1,ha2,ha3,ha4,hfV2,hEa⟩;have hFV2:=hFW0.step hfV2 (fun _=>False.elim);have hSV2:iz Ba x1 x2 x3 V2:=⟨hFV2.cell a1 id,hFV2.cell a2 id,hFV2.cell a3 id⟩;refine hK.out _ _ hSV2 (fun hHeld=>?_);clear hK K;have hsV2:=hfV2.size;have hga:=ha1.ltk ha3 ga rfl;refine wpAnyH_ready (rs:=[9,11]) (by kernel_rfl) (by simp) ?_;refine AllReadyH.cons rfl (fun K hK=>?_) (AllReadyH.cons rfl (fun K hK=>?_) AllReadyH.nil)
    ·go_simp
     refine (qd _ _ i3).mono ?_;rintro e V3 ⟨lt,gt,rfl,ht1,ht2,ht3,ht4,hfV3,hEt⟩;have hFV3:=hFV2.step hfV3 (fun _=>False.elim);have hSV3:iz Ba x1 x2 x3 V3:=⟨hFV3.cell a1 id,hFV3.cell a2 id,hFV3.cell a3 id⟩;refine hK.out _ _ hSV3 (fun hHeld=>?_);clear hK K;have hsV3:=hfV3.size;have hgt:=ht1.ltk ht3 gt rfl;replace ha1:=ha1.fr hfV3 (fun _ _=>id);refine wpAnyH_take (i:=10) (oi:={dst:=some 16,op:=Op.build 30 #[(0,Operand.tmp 9),(1,Operand.tmp 12),(2,Operand.tmp 15)],type:=30,pos:= "keep.go:55",after:=#[{on:=3,ground:=Ground.data},{on:=6,ground:=Ground.data},{on:=9,ground:=Ground.data}],guard:=none}) (v:=.agg #[.int .i64 (IntKind.i64.wrap (1+kd)),.slice (some ⟨ga,0,none⟩) la.length la.length,.slice (some ⟨gt,0,none⟩) lt.length lt.length,.int .i64 0,.int .i64 0,.int .i64 0,.int .i64 0,.int .i64 0,.int .i64 0,.int .i64 0]) rfl (by kernel_rfl) (by kernel_rfl) (by kernel_rfl) (fun _ _ _ h=>h) (Or.inl ⟨by rfl,?_⟩) hHeld ?_
     ·intro w hSw;unfold iz at hSw;go_simp
     simp only [Act.put,List.setIfInBounds_toArray,List.set_cons_zero,List.set_cons_succ];refine wpAnyH_ready (rs:=[11]) (by kernel_rfl) (by simp) ?_;refine AllReadyH.cons rfl (fun K hK=>?_) AllReadyH.nil;go_simp
     have hFV4:=hFV3.alloc (.cells #[.int .i64 0,.slice none 0 0,.slice none 0 0,.int .i64 0,.int .i64 0,.int .i64 0,.int .i64 0,.int .i64 0,.int .i64 0,.int .i64 0] 30);have hbV4:=heap_alloc_new V3 (.cells #[.int .i64 0,.slice none 0 0,.slice none 0 0,.int .i64 0,.int .i64 0,.int .i64 0,.int .i64 0,.int .i64 0,.int .i64 0,.int .i64 0] 30);have hGV4:=(Fr.refl V3 (fun _=>False)).alloc (.cells #[.int .i64 0,.slice none 0 0,.slice none 0 0,.int .i64 0,.int .i64 0,.int .i64 0,.int .i64 0,.int .i64 0,.int .i64 0,.int .i64 0] 30);have hzV3:=hFV3.size;have hqV4:(V3.alloc (.cells #[.int .i64 0,.slice none 0 0,.slice none 0 0,.int .i64 0,.int .i64 0,.int .i64 0,.int .i64 0,.int .i64 0,.int .i64 0,.int .i64 0] 30)).heap.size=V3.heap.size+1:=by simp
     generalize hBV3:V3.heap.size=B3 at *
     generalize V3.alloc _=V4 at *
     have hSV4:iz Ba x1 x2 x3 V4:=⟨hFV4.cell a1 id,hFV4.cell a2 id,hFV4.cell a3 id⟩;refine hK.out _ _ hSV4 (fun hHeld=>?_);clear hK K;replace ha1:=ha1.fr hGV4 (fun _ _=>id);replace ht1:=ht1.fr hGV4 (fun _ _=>id);refine wpAnyH_ready (rs:=[12]) (by kernel_rfl) (by simp) ?_;refine AllReadyH.cons rfl (fun K hK=>?_) AllReadyH.nil;obtain ⟨z0,z1,z2,z3,z4,z5,z6,z7,z8,z9⟩:=zi hbV4;have f0:=ae (o:=0) hbV4;have f1:=ae (o:=1) hbV4;have f2:=ae (o:=2) hbV4;have f3:=ae (o:=3) hbV4;have f4:=ae (o:=4) hbV4;have f5:=ae (o:=5) hbV4;have f6:=ae (o:=6) hbV4;have f7:=ae (o:=7) hbV4;have f8:=ae (o:=8) hbV4;have f9:=ae (o:=9) hbV4;go_simp
     have hbn:=aa5 (x0:=.int .i64 (1+kd)) (x1:=.slice (some ⟨ga,0,none⟩) la.length la.length) (x2:=.slice (some ⟨gt,0,none⟩) lt.length lt.length) (x3:=.int .i64 0) (x4:=.int .i64 0) (x5:=.int .i64 0) (x6:=.int .i64 0) (x7:=.int .i64 0) (x8:=.int .i64 0) (x9:=.int .i64 0) hbV4;have hfn:=ak0 V4 B3 (.int .i64 (1+kd)) (.slice (some ⟨ga,0,none⟩) la.length la.length) (.slice (some ⟨gt,0,none⟩) lt.length lt.length) (.int .i64 0) (.int .i64 0) (.int .i64 0) (.int .i64 0) (.int .i64 0) (.int .i64 0) (.int .i64 0);clear z0 z1 z2 z3 z4 z5 z6 z7 z8 z9 f0 f1 f2 f3 f4 f5 f6 f7 f8 f9;obtain ⟨V9,h9⟩:∃V9,Hid (((((((((((V4.setCell ⟨B3,0,none⟩ (.int .i64 (1+kd))).setCell ⟨B3,1,none⟩ (.slice (some ⟨ga,0,none⟩) la.length la.length)).setCell ⟨B3,2,none⟩ (.slice (some ⟨gt,0,none⟩) lt.length lt.length)).setCell ⟨B3,3,none⟩ (.int .i64 0)).setCell ⟨B3,4,none⟩ (.int .i64 0)).setCell ⟨B3,5,none⟩ (.int .i64 0)).setCell ⟨B3,6,none⟩ (.int .i64 0)).setCell ⟨B3,7,none⟩ (.int .i64 0)).setCell ⟨B3,8,none⟩ (.int .i64 0)).setCell ⟨B3,9,none⟩ (.int .i64 0))=V9):=⟨_,rfl⟩;rw [h9.out] at hbn hfn ⊢;clear h9;have hBW:W.heap.size<=B3:=by omega
     have hF9:=hFV4.step hfn (fun k hk=>.inr (by omega))
     refine hK.out _ _ (show iz Ba x1 x2 x3 V9 from ⟨hF9.cell a1 id,hF9.cell a2 id,hF9.cell a3 id⟩) (fun hHeld=>?_);clear hK K;refine wpAnyH_done (by kernel_rfl) ?_ _;refine NoPanic.normal ?_;go_wp2;go_meet;case rel=>exact ⟨B3,la,ga,lt,gt,rfl,hbn,hBW,hF9,⟨ha1.frk hfn (fun _ k hk e=>by have:=ka hk;omega),ht1.frk hfn (fun _ k hk e=>by have:=ka hk;omega),ha2,ht2,by omega,by omega,by omega,by omega⟩,hEa,hEt⟩
    ·go_simp
     have hFV3:=hFV2.alloc (.cells #[.int .i64 0,.slice none 0 0,.slice none 0 0,.int .i64 0,.int .i64 0,.int .i64 0,.int .i64 0,.int .i64 0,.int .i64 0,.int .i64 0] 30);have hbV3:=heap_alloc_new V2 (.cells #[.int .i64 0,.slice none 0 0,.slice none 0 0,.int .i64 0,.int .i64 0,.int .i64 0,.int .i64 0,.int .i64 0,.int .i64 0,.int .i64 0] 30);have hGV3:=(Fr.refl V2 (fun _=>False)).alloc (.cells #[.int .i64 0,.slice none 0 0,.slice none 0 0,.int .i64 0,.int .i64 0,.int .i64 0,.int .i64 0,.int .i64 0,.int .i64 0,.int .i64 0] 30);have hzV2:=hFV2.size;have hqV3:(V2.alloc (.cells #[.int .i64 0,.slice none 0 0,.slice none 0 0,.int .i64 0,.int .i64 0,.int .i64 0,.int .i64 0,.int .i64 0,.int .i64 0,.int .i64 0] 30)).heap.size=V2.heap.size+1:=by simp
     generalize hBV2:V2.heap.size=B3 at *
     generalize V2.alloc _=V3 at *
     have hSV3:iz Ba x1 x2 x3 V3:=⟨hFV3.cell a1 id,hFV3.cell a2 id,hFV3.cell a3 id⟩;refine hK.out _ _ hSV3 (fun hHeld=>?_);clear hK K;replace ha1:=ha1.fr hGV3 (fun _ _=>id);refine wpAnyH_ready (rs:=[9]) (by kernel_rfl) (by simp) ?_;refine AllReadyH.cons rfl (fun K hK=>?_) AllReadyH.nil;go_simp
     refine (qd _ _ i3).mono ?_;rintro e V4 ⟨lt,gt,rfl,ht1,ht2,ht3,ht4,hfV4,hEt⟩;have hFV4:=hFV3.step hfV4 (fun _=>False.elim);have hSV4:iz Ba x1 x2 x3 V4:=⟨hFV4.cell a1 id,hFV4.cell a2 id,hFV4.cell a3 id⟩;refine hK.out _ _ hSV4 (fun hHeld=>?_);clear hK K;have hsV4:=hfV4.size;have hgt:=ht1.ltk ht3 gt rfl;replace ha1:=ha1.fr hfV4 (fun _ _=>id);have hbV4:=hfV4.same hbV3 id;refine wpAnyH_take (i:=10) (oi:={dst:=some 16,op:=Op.build 30 #[(0,Operand.tmp 9),(1,Operand.tmp 12),(2,Operand.tmp 15)],type:=30,pos:= "keep.go:55",after:=#[{on:=3,ground:=Ground.data},{on:=6,ground:=Ground.data},{on:=9,ground:=Ground.data}],guard:=none}) (v:=.agg #[.int .i64 (IntKind.i64.wrap (1+kd)),.slice (some ⟨ga,0,none⟩) la.length la.length,.slice (some ⟨gt,0,none⟩) lt.length lt.length,.int .i64 0,.int .i64 0,.int .i64 0,.int .i64 0,.int .i64 0,.int .i64 0,.int .i64 0]) rfl (by kernel_rfl) (by kernel_rfl) (by kernel_rfl) (fun _ _ _ h=>h) (Or.inl ⟨by rfl,?_⟩) hHeld ?_
     ·intro w hSw;unfold iz at hSw;go_simp
     simp only [Act.put,List.setIfInBounds_toArray,List.set_cons_zero,List.set_cons_succ];refine wpAnyH_ready (rs:=[12]) (by kernel_rfl) (by simp) ?_;refine AllReadyH.cons rfl (fun K hK=>?_) AllReadyH.nil;obtain ⟨z0,z1,z2,z3,z4,z5,z6,z7,z8,z9⟩:=zi hbV4;have f0:=ae (o:=0) hbV4;have f1:=ae (o:=1) hbV4;have f2:=ae (o:=2) hbV4;have f3:=ae (o:=3) hbV4;have f4:=ae (o:=4) hbV4;have f5:=ae (o:=5) hbV4;have f6:=ae (o:=6) hbV4;have f7:=ae (o:=7) hbV4;have f8:=ae (o:=8) hbV4;have f9:=ae (o:=9) hbV4;go_simp
     have hbn:=aa5 (x0:=.int .i64 (1+kd)) (x1:=.slice (some ⟨ga,0,none⟩) la.length la.length) (x2:=.slice (some ⟨gt,0,none⟩) lt.length lt.length) (x3:=.int .i64 0) (x4:=.int .i64 0) (x5:=.int .i64 0) (x6:=.int .i64 0) (x7:=.int .i64 0) (x8:=.int .i64 0) (x9:=.int .i64 0) hbV4;have hfn:=ak0 V4 B3 (.int .i64 (1+kd)) (.slice (some ⟨ga,0,none⟩) la.length la.length) (.slice (some ⟨gt,0,none⟩) lt.length lt.length) (.int .i64 0) (.int .i64 0) (.int .i64 0) (.int .i64 0) (.int .i64 0) (.int .i64 0) (.int .i64 0);clear z0 z1 z2 z3 z4 z5 z6 z7 z8 z9 f0 f1 f2 f3 f4 f5 f6 f7 f8 f9;obtain ⟨V9,h9⟩:∃V9,Hid (((((((((((V4.setCell ⟨B3,0,none⟩ (.int .i64 (1+kd))).setCell ⟨B3,1,none⟩ (.slice (some ⟨ga,0,none⟩) la.length la.length)).setCell ⟨B3,2,none⟩ (.slice (some ⟨gt,0,none⟩) lt.length lt.length)).setCell ⟨B3,3,none⟩ (.int .i64 0)).setCell ⟨B3,4,none⟩ (.int .i64 0)).setCell ⟨B3,5,none⟩ (.int .i64 0)).setCell ⟨B3,6,none⟩ (.int .i64 0)).setCell ⟨B3,7,none⟩ (.int .i64 0)).setCell ⟨B3,8,none⟩ (.int .i64 0)).setCell ⟨B3,9,none⟩ (.int .i64 0))=V9):=⟨_,rfl⟩;rw [h9.out] at hbn hfn ⊢;clear h9;have hBW:W.heap.size<=B3:=by omega
     have hF9:=hFV4.step hfn (fun k hk=>.inr (by omega))
     refine hK.out _ _ (show iz Ba x1 x2 x3 V9 from ⟨hF9.cell a1 id,hF9.cell a2 id,hF9.cell a3 id⟩) (fun hHeld=>?_);clear hK K;refine wpAnyH_done (by kernel_rfl) ?_ _;refine NoPanic.normal ?_;go_wp2;go_meet;case rel=>exact ⟨B3,la,ga,lt,gt,rfl,hbn,hBW,hF9,⟨ha1.frk hfn (fun _ k hk e=>by have:=ka hk;omega),ht1.frk hfn (fun _ k hk e=>by have:=ka hk;omega),ha2,ht2,by omega,by omega,by omega,by omega⟩,hEa,hEt⟩
   ·go_simp
    have hFV2:=hFW0.alloc (.cells #[.int .i64 0,.slice none 0 0,.slice none 0 0,.int .i64 0,.int .i64 0,.int .i64 0,.int .i64 0,.int .i64 0,.int .i64 0,.int .i64 0] 30);have hbV2:=heap_alloc_new W0 (.cells #[.int .i64 0,.slice none 0 0,.slice none 0 0,.int .i64 0,.int .i64 0,.int .i64 0,.int .i64 0,.int .i64 0,.int .i64 0,.int .i64 0] 30);have hGV2:=(Fr.refl W0 (fun _=>False)).alloc (.cells #[.int .i64 0,.slice none 0 0,.slice none 0 0,.int .i64 0,.int .i64 0,.int .i64 0,.int .i64 0,.int .i64 0,.int .i64 0,.int .i64 0] 30);have hzW0:=hFW0.size;have hqV2:(W0.alloc (.cells #[.int .i64 0,.slice none 0 0,.slice none 0 0,.int .i64 0,.int .i64 0,.int .i64 0,.int .i64 0,.int .i64 0,.int .i64 0,.int .i64 0] 30)).heap.size=W0.heap.size+1:=by simp
    generalize hBW0:W0.heap.size=B3 at *
    generalize W0.alloc _=V2 at *
    have hSV2:iz Ba x1 x2 x3 V2:=⟨hFV2.cell a1 id,hFV2.cell a2 id,hFV2.cell a3 id⟩;refine hK.out _ _ hSV2 (fun hHeld=>?_);clear hK K;refine wpAnyH_ready (rs:=[6]) (by kernel_rfl) (by simp) ?_;refine AllReadyH.cons rfl (fun K hK=>?_) AllReadyH.nil;go_simp
    refine (qd _ _ i2).mono ?_;rintro e V3 ⟨la,ga,rfl,ha1,ha2,ha3,ha4,hfV3,hEa⟩;have hFV3:=hFV2.step hfV3 (fun _=>False.elim);have hSV3:iz Ba x1 x2 x3 V3:=⟨hFV3.cell a1 id,hFV3.cell a2 id,hFV3.cell a3 id⟩;refine hK.out _ _ hSV3 (fun hHeld=>?_);clear hK K;have hsV3:=hfV3.size;have hga:=ha1.ltk ha3 ga rfl;have hbV3:=hfV3.same hbV2 id;refine wpAnyH_ready (rs:=[9]) (by kernel_rfl) (by simp) ?_;refine AllReadyH.cons rfl (fun K hK=>?_) AllReadyH.nil;go_simp
    refine (qd _ _ i3).mono ?_;rintro e V4 ⟨lt,gt,rfl,ht1,ht2,ht3,ht4,hfV4,hEt⟩;have hFV4:=hFV3.step hfV4 (fun _=>False.elim);have hSV4:iz Ba x1 x2 x3 V4:=⟨hFV4.cell a1 id,hFV4.cell a2 id,hFV4.cell a3 id⟩;refine hK.out _ _ hSV4 (fun hHeld=>?_);clear hK K;have hsV4:=hfV4.size;have hgt:=ht1.ltk ht3 gt rfl;replace ha1:=ha1.fr hfV4 (fun _ _=>id);have hbV4:=hfV4.same hbV3 id;refine wpAnyH_take (i:=10) (oi:={dst:=some 16,op:=Op.build 30 #[(0,Operand.tmp 9),(1,Operand.tmp 12),(2,Operand.tmp 15)],type:=30,pos:= "keep.go:55",after:=#[{on:=3,ground:=Ground.data},{on:=6,ground:=Ground.data},{on:=9,ground:=Ground.data}],guard:=none}) (v:=.agg #[.int .i64 (IntKind.i64.wrap (1+kd)),.slice (some ⟨ga,0,none⟩) la.length la.length,.slice (some ⟨gt,0,none⟩) lt.length lt.length,.int .i64 0,.int .i64 0,.int .i64 0,.int .i64 0,.int .i64 0,.int .i64 0,.int .i64 0]) rfl (by kernel_rfl) (by kernel_rfl) (by kernel_rfl) (fun _ _ _ h=>h) (Or.inl ⟨by rfl,?_⟩) hHeld ?_
    ·intro w hSw;unfold iz at hSw;go_simp
    simp only [Act.put,List.setIfInBounds_toArray,List.set_cons_zero,List.set_cons_succ];refine wpAnyH_ready (rs:=[12]) (by kernel_rfl) (by simp) ?_;refine AllReadyH.cons rfl (fun K hK=>?_) AllReadyH.nil;obtain ⟨z0,z1,z2,z3,z4,z5,z6,z7,z8,z9⟩:=zi hbV4;have f0:=ae (o:=0) hbV4;have f1:=ae (o:=1) hbV4;have f2:=ae (o:=2) hbV4;have f3:=ae (o:=3) hbV4;have f4:=ae (o:=4) hbV4;have f5:=ae (o:=5) hbV4;have f6:=ae (o:=6) hbV4;have f7:=ae (o:=7) hbV4;have f8:=ae (o:=8) hbV4;have f9:=ae (o:=9) hbV4;go_simp
    have hbn:=aa5 (x0:=.int .i64 (1+kd)) (x1:=.slice (some ⟨ga,0,none⟩) la.length la.length) (x2:=.slice (some ⟨gt,0,none⟩) lt.length lt.length) (x3:=.int .i64 0) (x4:=.int .i64 0) (x5:=.int .i64 0) (x6:=.int .i64 0) (x7:=.int .i64 0) (x8:=.int .i64 0) (x9:=.int .i64 0) hbV4;have hfn:=ak0 V4 B3 (.int .i64 (1+kd)) (.slice (some ⟨ga,0,none⟩) la.length la.length) (.slice (some ⟨gt,0,none⟩) lt.length lt.length) (.int .i64 0) (.int .i64 0) (.int .i64 0) (.int .i64 0) (.int .i64 0) (.int .i64 0) (.int .i64 0);clear z0 z1 z2 z3 z4 z5 z6 z7 z8 z9 f0 f1 f2 f3 f4 f5 f6 f7 f8 f9;obtain ⟨V9,h9⟩:∃V9,Hid (((((((((((V4.setCell ⟨B3,0,none⟩ (.int .i64 (1+kd))).setCell ⟨B3,1,none⟩ (.slice (some ⟨ga,0,none⟩) la.length la.length)).setCell ⟨B3,2,none⟩ (.slice (some ⟨gt,0,none⟩) lt.length lt.length)).setCell ⟨B3,3,none⟩ (.int .i64 0)).setCell ⟨B3,4,none⟩ (.int .i64 0)).setCell ⟨B3,5,none⟩ (.int .i64 0)).setCell ⟨B3,6,none⟩ (.int .i64 0)).setCell ⟨B3,7,none⟩ (.int .i64 0)).setCell ⟨B3,8,none⟩ (.int .i64 0)).setCell ⟨B3,9,none⟩ (.int .i64 0))=V9):=⟨_,rfl⟩;rw [h9.out] at hbn hfn ⊢;clear h9;have hBW:W.heap.size<=B3:=by omega
    have hF9:=hFV4.step hfn (fun k hk=>.inr (by omega))
    refine hK.out _ _ (show iz Ba x1 x2 x3 V9 from ⟨hF9.cell a1 id,hF9.cell a2 id,hF9.cell a3 id⟩) (fun hHeld=>?_);clear hK K;refine wpAnyH_done (by kernel_rfl) ?_ _;refine NoPanic.normal ?_;go_wp2;go_meet;case rel=>exact ⟨B3,la,ga,lt,gt,rfl,hbn,hBW,hF9,⟨ha1.frk hfn (fun _ k hk e=>by have:=ka hk;omega),ht1.frk hfn (fun _ k hk e=>by have:=ka hk;omega),ha2,ht2,by omega,by omega,by omega,by omega⟩,hEa,hEt⟩
  ·go_simp
   have hFV1:=hFW0.alloc (.cells #[.int .i64 0,.slice none 0 0,.slice none 0 0,.int .i64 0,.int .i64 0,.int .i64 0,.int .i64 0,.int .i64 0,.int .i64 0,.int .i64 0] 30);have hbV1:=heap_alloc_new W0 (.cells #[.int .i64 0,.slice none 0 0,.slice none 0 0,.int .i64 0,.int .i64 0,.int .i64 0,.int .i64 0,.int .i64 0,.int .i64 0,.int .i64 0] 30);have hGV1:=(Fr.refl W0 (fun _=>False)).alloc (.cells #[.int .i64 0,.slice none 0 0,.slice none 0 0,.int .i64 0,.int .i64 0,.int .i64 0,.int .i64 0,.int .i64 0,.int .i64 0,.int .i64 0] 30);have hzW0:=hFW0.size;have hqV1:(W0.alloc (.cells #[.int .i64 0,.slice none 0 0,.slice none 0 0,.int .i64 0,.int .i64 0,.int .i64 0,.int .i64 0,.int .i64 0,.int .i64 0,.int .i64 0] 30)).heap.size=W0.heap.size+1:=by simp
   generalize hBW0:W0.heap.size=B3 at *
   generalize W0.alloc _=V1 at *
   have hSV1:iz Ba x1 x2 x3 V1:=⟨hFV1.cell a1 id,hFV1.cell a2 id,hFV1.cell a3 id⟩;refine hK.out _ _ hSV1 (fun hHeld=>?_);clear hK K;refine wpAnyH_ready (rs:=[2]) (by kernel_rfl) (by simp) ?_;refine AllReadyH.cons rfl (fun K hK=>?_) AllReadyH.nil;go_simp
   refine (hpk _).mono ?_;rintro e w1 ⟨rfl,he1⟩;obtain rfl:=he1.symm;refine hK.out _ _ hSV1 (fun hHeld=>?_);clear hK K;refine wpAnyH_take (i:=3) (oi:={dst:=some 9,op:=Op.binOp BinOp.add 3 (Operand.const (Value.int IntKind.i64 1)) (Operand.tmp 8) 3,type:=3,pos:= "keep.go:55",after:=#[{on:=2,ground:=Ground.data}],guard:=none}) (v:=.int .i64 (IntKind.i64.wrap (1+kd))) rfl (by kernel_rfl) (by kernel_rfl) (by kernel_rfl) (fun _ _ _ h=>h) (Or.inl ⟨by rfl,?_⟩) hHeld ?_
   ·intro w hSw;unfold iz at hSw;go_simp
   simp only [Act.put,List.setIfInBounds_toArray,List.set_cons_zero,List.set_cons_succ];refine wpAnyH_ready (rs:=[6]) (by kernel_rfl) (by simp) ?_;refine AllReadyH.cons rfl (fun K hK=>?_) AllReadyH.nil;go_simp
   refine (qd _ _ i2).mono ?_;rintro e V3 ⟨la,ga,rfl,ha1,ha2,ha3,ha4,hfV3,hEa⟩;have hFV3:=hFV1.step hfV3 (fun _=>False.elim);have hSV3:iz Ba x1 x2 x3 V3:=⟨hFV3.cell a1 id,hFV3.cell a2 id,hFV3.cell a3 id⟩;refine hK.out _ _ hSV3 (fun hHeld=>?_);clear hK K;have hsV3:=hfV3.size;have hga:=ha1.ltk ha3 ga rfl;have hbV3:=hfV3.same hbV1 id;refine wpAnyH_ready (rs:=[9]) (by kernel_rfl) (by simp) ?_;refine AllReadyH.cons rfl (fun K hK=>?_) AllReadyH.nil;go_simp
   refine (qd _ _ i3).mono ?_;rintro e V4 ⟨lt,gt,rfl,ht1,ht2,ht3,ht4,hfV4,hEt⟩;have hFV4:=hFV3.step hfV4 (fun _=>False.elim);have hSV4:iz Ba x1 x2 x3 V4:=⟨hFV4.cell a1 id,hFV4.cell a2 id,hFV4.cell a3 id⟩;refine hK.out _ _ hSV4 (fun hHeld=>?_);clear hK K;have hsV4:=hfV4.size;have hgt:=ht1.ltk ht3 gt rfl;replace ha1:=ha1.fr hfV4 (fun _ _=>id);have hbV4:=hfV4.same hbV3 id;refine wpAnyH_take (i:=10) (oi:={dst:=some 16,op:=Op.build 30 #[(0,Operand.tmp 9),(1,Operand.tmp 12),(2,Operand.tmp 15)],type:=30,pos:= "keep.go:55",after:=#[{on:=3,ground:=Ground.data},{on:=6,ground:=Ground.data},{on:=9,ground:=Ground.data}],guard:=none}) (v:=.agg #[.int .i64 (IntKind.i64.wrap (1+kd)),.slice (some ⟨ga,0,none⟩) la.length la.length,.slice (some ⟨gt,0,none⟩) lt.length lt.length,.int .i64 0,.int .i64 0,.int .i64 0,.int .i64 0,.int .i64 0,.int .i64 0,.int .i64 0]) rfl (by kernel_rfl) (by kernel_rfl) (by kernel_rfl) (fun _ _ _ h=>h) (Or.inl ⟨by rfl,?_⟩) hHeld ?_
   ·intro w hSw;unfold iz at hSw;go_simp
   simp only [Act.put,List.setIfInBounds_toArray,List.set_cons_zero,List.set_cons_succ];refine wpAnyH_ready (rs:=[12]) (by kernel_rfl) (by simp) ?_;refine AllReadyH.cons rfl (fun K hK=>?_) AllReadyH.nil;obtain ⟨z0,z1,z2,z3,z4,z5,z6,z7,z8,z9⟩:=zi hbV4;have f0:=ae (o:=0) hbV4;have f1:=ae (o:=1) hbV4;have f2:=ae (o:=2) hbV4;have f3:=ae (o:=3) hbV4;have f4:=ae (o:=4) hbV4;have f5:=ae (o:=5) hbV4;have f6:=ae (o:=6) hbV4;have f7:=ae (o:=7) hbV4;have f8:=ae (o:=8) hbV4;have f9:=ae (o:=9) hbV4;go_simp
   have hbn:=aa5 (x0:=.int .i64 (1+kd)) (x1:=.slice (some ⟨ga,0,none⟩) la.length la.length) (x2:=.slice (some ⟨gt,0,none⟩) lt.length lt.length) (x3:=.int .i64 0) (x4:=.int .i64 0) (x5:=.int .i64 0) (x6:=.int .i64 0) (x7:=.int .i64 0) (x8:=.int .i64 0) (x9:=.int .i64 0) hbV4;have hfn:=ak0 V4 B3 (.int .i64 (1+kd)) (.slice (some ⟨ga,0,none⟩) la.length la.length) (.slice (some ⟨gt,0,none⟩) lt.length lt.length) (.int .i64 0) (.int .i64 0) (.int .i64 0) (.int .i64 0) (.int .i64 0) (.int .i64 0) (.int .i64 0);clear z0 z1 z2 z3 z4 z5 z6 z7 z8 z9 f0 f1 f2 f3 f4 f5 f6 f7 f8 f9;obtain ⟨V9,h9⟩:∃V9,Hid (((((((((((V4.setCell ⟨B3,0,none⟩ (.int .i64 (1+kd))).setCell ⟨B3,1,none⟩ (.slice (some ⟨ga,0,none⟩) la.length la.length)).setCell ⟨B3,2,none⟩ (.slice (some ⟨gt,0,none⟩) lt.length lt.length)).setCell ⟨B3,3,none⟩ (.int .i64 0)).setCell ⟨B3,4,none⟩ (.int .i64 0)).setCell ⟨B3,5,none⟩ (.int .i64 0)).setCell ⟨B3,6,none⟩ (.int .i64 0)).setCell ⟨B3,7,none⟩ (.int .i64 0)).setCell ⟨B3,8,none⟩ (.int .i64 0)).setCell ⟨B3,9,none⟩ (.int .i64 0))=V9):=⟨_,rfl⟩;rw [h9.out] at hbn hfn ⊢;clear h9;have hBW:W.heap.size<=B3:=by omega
   have hF9:=hFV4.step hfn (fun k hk=>.inr (by omega))
   refine hK.out _ _ (show iz Ba x1 x2 x3 V9 from ⟨hF9.cell a1 id,hF9.cell a2 id,hF9.cell a3 id⟩) (fun hHeld=>?_);clear hK K;refine wpAnyH_done (by kernel_rfl) ?_ _;refine NoPanic.normal ?_;go_wp2;go_meet;case rel=>exact ⟨B3,la,ga,lt,gt,rfl,hbn,hBW,hF9,⟨ha1.frk hfn (fun _ k hk e=>by have:=ka hk;omega),ht1.frk hfn (fun _ k hk e=>by have:=ka hk;omega),ha2,ht2,by omega,by omega,by omega,by omega⟩,hEa,hEt⟩
 case rest=>
  obtain ⟨B3,la,ga,lt,gt,rfl,hb3,hB3,hFc,hmid,hEa,hEt⟩:=hcut;have hwW:=hf.size;have hB3a:B3≠Ba:=by omega
  have hB3b:B3≠Bb:=by omega
  have hba2:=hFc.same hba id;have hbb2:=hFc.same hbb id;have hF2:=hf.step hFc (fun _=>False.elim);clear a0 a1 a2 a3 a4 a5 a6 hpk hba hbb hFc;have st:j4 w W wc Ba Bb B3 _ _ la ga lt gt:=⟨hb3,hba2,hbb2,hF2,hmid,hB3a,hB3b,by omega⟩;clear hb3 hba2 hbb2 hF2 hmid;obtain ⟨a0,a1,a2,a3,a4,a5,a6⟩:=dj st.ba;have z3:=aa (o:=3) st.b3 rfl;have f3:=ae (o:=3) st.b3;have hp5:=ng x4 5 (by decide);have hpk:=fun W=>pk (n:=5) W i4 (by decide) (by decide)
  obtain ⟨p5,Hp5⟩:∃p,Hid (dq x4 5=p):=⟨_,rfl⟩;rw [Hp5.out] at hp5;simp only [Hp5.out] at hpk;go_upto_region 3 with (go_at_call 13;refine (hpk _).mono ?_;rintro e w1 ⟨rfl,he1⟩;obtain rfl:=he1.symm)
  have st1:=st.set 3 (.int .i64 (1+p5));generalize wc.setCell _ _=wd at st1 ⊢;clear st a0 a1 a2 a3 a4 a5 a6 z3 f3 hpk;go_upto_region 5 with fail
  obtain ⟨hf5,hsz5,hl1,hl2⟩:=m6 (w:=wd) (a:=.cells #[.int .i64 0,.int .i64 4,.int .i64 3,.int .i64 2,.int .i64 4,.int .i64 2] 3) (b:=.cells #[.int .i64 1,.int .i64 5,.int .i64 3,.int .i64 1,.int .i64 1,.int .i64 4] 3) rfl;have st2:=st1.next hf5;have hlb3:=(Array.getElem?_eq_some_iff.1 st1.b3).1;have hlba:=(Array.getElem?_eq_some_iff.1 st1.ba).1;generalize (wd.alloc _).alloc _=we at hf5 hl1 hl2 st2 ⊢;have q1:wd.heap.size≠B3:=by omega
  have q2:wd.heap.size+1≠B3:=by omega
  generalize wd.heap.size+1=Bs at hl2 q2 ⊢;generalize wd.heap.size=Bl at hl1 q1 ⊢;clear st1 hf5 hsz5 hlb3 hlba;go_cut [38] (fun _ wx=>∃y4:Int,Hid (y4=IntKind.i64.wrap ((bp8 p5).1+dq (IntKind.i64.wrap (x4.tdiv 5)) (bp8 p5).2))/\j4 w W wx Ba Bb B3 #[.int .i64 x0,.int .i64 x1,.int .i64 x2,.int .i64 x3,.int .i64 x4,.int .i64 x5,bv] #[.int .i64 (1+kd),.slice (some ⟨ga,0,none⟩) la.length la.length,.slice (some ⟨gt,0,none⟩) lt.length lt.length,.int .i64 (1+p5),.int .i64 y4,.int .i64 0,.int .i64 0,.int .i64 0,.int .i64 0,.int .i64 0] la ga lt gt)
  case first=>
   have a4:=(dj st2.ba).2.2.2.2.1;have z4:=aa (o:=4) st2.b3 rfl;have f4:=ae (o:=4) st2.b3;have hv:∃(i:Nat) (l s:Int),1+p5=i/\i<6/\we.cell? ⟨Bl,i,none⟩=some (.int .i64 l)/\we.cell? ⟨Bs,i,none⟩=some (.int .i64 s)/\0<s/\s<=4294967296/\Hid (bp8 p5=(l,s)):=by
    have:p5=0\/p5=1\/p5=2\/p5=3\/p5=4:=by omega
    rcases this with rfl | rfl | rfl | rfl | rfl
    ·exact ⟨1,4,5,rfl,by decide,aa (o:=1) hl1 rfl,aa (o:=1) hl2 rfl,by decide,by decide,(by show _=_;decide)⟩
    ·exact ⟨2,3,3,rfl,by decide,aa (o:=2) hl1 rfl,aa (o:=2) hl2 rfl,by decide,by decide,(by show _=_;decide)⟩
    ·exact ⟨3,2,1,rfl,by decide,aa (o:=3) hl1 rfl,aa (o:=3) hl2 rfl,by decide,by decide,(by show _=_;decide)⟩
    ·exact ⟨4,4,1,rfl,by decide,aa (o:=4) hl1 rfl,aa (o:=4) hl2 rfl,by decide,by decide,(by show _=_;decide)⟩
    ·exact ⟨5,2,4,rfl,by decide,aa (o:=5) hl1 rfl,aa (o:=5) hl2 rfl,by decide,by decide,(by show _=_;decide)⟩
   obtain ⟨ix,lv,sv,hix,hi6,hcl,hcs,hs0,hs1,Hls⟩:=hv;have z3:we.cell? ⟨B3,3,none⟩=some (.int .i64 ix):=by rw [<- hix];exact aa (o:=3) st2.b3 rfl
   have HX:Hid (1+p5=ix):=hix;have hk3:∀v,(we.setCell ⟨B3,4,none⟩ v).drew.cell? ⟨B3,3,none⟩=some (.int .i64 ix):=fun v=>by rw [<- HX.out];exact aa (o:=3) (au _ B3 4 v st2.b3) rfl
   have q1':B3≠Bl:=q1.symm;have q2':B3≠Bs:=q2.symm;have hj0:(0:Int)<=(ix:Int):=by omega
   have hj6:(ix:Int)<6:=by omega
   have hj5:(ix:Int)<=6:=by omega
   clear hix hl1 hl2 hp5;go_region_held3 (fun w'=>w'.cell? ⟨B3,3,none⟩=some (.int .i64 ix)/\w'.cell? ⟨Bl,ix,none⟩=some (.int .i64 lv)/\w'.cell? ⟨Bs,ix,none⟩=some (.int .i64 sv)/\w'.cell? ⟨Ba,4,none⟩=some (.int .i64 x4)) ((first | go_keep | exact hk3 _))
    ((go_at_call 13;refine (pk _ (I64.wrapk _) hs0 hs1).mono ?_;rintro e W5 ⟨rfl,he5⟩;obtain rfl:=he5.symm))
   all_goals (have st3:=(st2.set 4 (.int .i64 (IntKind.i64.wrap (lv+dq (IntKind.i64.wrap (x4.tdiv 5)) sv)))).next (Fr.refl _ (fun _=>False)).drew)
   all_goals clear hk3 z3 z4 f4 a4 hcl hcs
   all_goals go_wp2
   all_goals go_meet
   all_goals exact ⟨_,by show _=_;rw [Hls.out],st3⟩
  case rest=>
   obtain ⟨y4,H4,st3⟩:=hcut;clear st2 hl1 hl2 q1 q2;obtain ⟨a0,a1,a2,a3,a4,a5,a6⟩:=dj st3.ba;have zz:=aa (o:=5) st3.b3 rfl;have ff:=ae (o:=5) st3.b3;go_upto_region 7 with (go_at_call 13;refine (pk _ (by first | exact i4 | exact i5 | exact I64.wrap _ | exact I64.wrapk _) (by decide) (by decide)).mono ?_;rintro e w1 ⟨rfl,he1⟩;obtain rfl:=he1.symm)
   refine j4.gen (P:=fun wx=>Code.wp _ _ _ _ wx) st3 5 _ ?_;intro wd5 st4;obtain ⟨y5,H5,st4⟩:∃y5:Int,Hid (y5=wrap64 (1+dq (wrap64 (x4.tdiv 25)) 3))/\j4 w W wd5 Ba Bb B3 #[.int .i64 x0,.int .i64 x1,.int .i64 x2,.int .i64 x3,.int .i64 x4,.int .i64 x5,bv] #[.int .i64 (1+kd),.slice (some ⟨ga,0,none⟩) la.length la.length,.slice (some ⟨gt,0,none⟩) lt.length lt.length,.int .i64 (1+p5),.int .i64 y4,.int .i64 y5,.int .i64 0,.int .i64 0,.int .i64 0,.int .i64 0] la ga lt gt:=⟨_,by show _=_;rfl,st4⟩;clear st3 a0 a1 a2 a3 a4 a5 a6 zz ff;obtain ⟨a0,a1,a2,a3,a4,a5,a6⟩:=dj st4.ba;have zz:=aa (o:=6) st4.b3 rfl;have ff:=ae (o:=6) st4.b3;go_upto_region 8 with (go_at_call 13;refine (pk _ (by first | exact i4 | exact i5 | exact I64.wrap _ | exact I64.wrapk _) (by decide) (by decide)).mono ?_;rintro e w1 ⟨rfl,he1⟩;obtain rfl:=he1.symm)
   refine j4.gen (P:=fun wx=>Code.wp _ _ _ _ wx) st4 6 _ ?_;intro wd6 st5;obtain ⟨y6,H6,st5⟩:∃y6:Int,Hid (y6=dq x5 8)/\j4 w W wd6 Ba Bb B3 #[.int .i64 x0,.int .i64 x1,.int .i64 x2,.int .i64 x3,.int .i64 x4,.int .i64 x5,bv] #[.int .i64 (1+kd),.slice (some ⟨ga,0,none⟩) la.length la.length,.slice (some ⟨gt,0,none⟩) lt.length lt.length,.int .i64 (1+p5),.int .i64 y4,.int .i64 y5,.int .i64 y6,.int .i64 0,.int .i64 0,.int .i64 0] la ga lt gt:=⟨_,by show _=_;rfl,st5⟩;clear st4 a0 a1 a2 a3 a4 a5 a6 zz ff;obtain ⟨a0,a1,a2,a3,a4,a5,a6⟩:=dj st5.ba;have zz:=aa (o:=7) st5.b3 rfl;have ff:=ae (o:=7) st5.b3;go_upto_region 9 with (go_at_call 13;refine (pk _ (by first | exact i4 | exact i5 | exact I64.wrap _ | exact I64.wrapk _) (by decide) (by decide)).mono ?_;rintro e w1 ⟨rfl,he1⟩;obtain rfl:=he1.symm)
   refine j4.gen (P:=fun wx=>Code.wp _ _ _ _ wx) st5 7 _ ?_;intro wd7 st6;obtain ⟨y7,H7,st6⟩:∃y7:Int,Hid (y7=wrap64 (1+dq (wrap64 (x5.tdiv 8)) 9))/\j4 w W wd7 Ba Bb B3 #[.int .i64 x0,.int .i64 x1,.int .i64 x2,.int .i64 x3,.int .i64 x4,.int .i64 x5,bv] #[.int .i64 (1+kd),.slice (some ⟨ga,0,none⟩) la.length la.length,.slice (some ⟨gt,0,none⟩) lt.length lt.length,.int .i64 (1+p5),.int .i64 y4,.int .i64 y5,.int .i64 y6,.int .i64 y7,.int .i64 0,.int .i64 0] la ga lt gt:=⟨_,by show _=_;rfl,st6⟩;clear st5 a0 a1 a2 a3 a4 a5 a6 zz ff;obtain ⟨a0,a1,a2,a3,a4,a5,a6⟩:=dj st6.ba;have zz:=aa (o:=8) st6.b3 rfl;have ff:=ae (o:=8) st6.b3;go_upto_region 10 with (go_at_call 13;refine (pk _ (by first | exact i4 | exact i5 | exact I64.wrap _ | exact I64.wrapk _) (by decide) (by decide)).mono ?_;rintro e w1 ⟨rfl,he1⟩;obtain rfl:=he1.symm)
   refine j4.gen (P:=fun wx=>Code.wp _ _ _ _ wx) st6 8 _ ?_;intro wd8 st7;obtain ⟨y8,H8,st7⟩:∃y8:Int,Hid (y8=dq (wrap64 (x5.tdiv 8)) 1000)/\j4 w W wd8 Ba Bb B3 #[.int .i64 x0,.int .i64 x1,.int .i64 x2,.int .i64 x3,.int .i64 x4,.int .i64 x5,bv] #[.int .i64 (1+kd),.slice (some ⟨ga,0,none⟩) la.length la.length,.slice (some ⟨gt,0,none⟩) lt.length lt.length,.int .i64 (1+p5),.int .i64 y4,.int .i64 y5,.int .i64 y6,.int .i64 y7,.int .i64 y8,.int .i64 0] la ga lt gt:=⟨_,by show _=_;rfl,st7⟩;clear st6 a0 a1 a2 a3 a4 a5 a6 zz ff;obtain ⟨a0,a1,a2,a3,a4,a5,a6⟩:=dj st7.ba;have zz:=aa (o:=9) st7.b3 rfl;have ff:=ae (o:=9) st7.b3;go_upto_region 11 with (go_at_call 13;refine (pk _ (by first | exact i4 | exact i5 | exact I64.wrap _ | exact I64.wrapk _) (by decide) (by decide)).mono ?_;rintro e w1 ⟨rfl,he1⟩;obtain rfl:=he1.symm)
   refine j4.gen (P:=fun wx=>Code.wp _ _ _ _ wx) st7 9 _ ?_;intro wd9 st8;obtain ⟨y9,H9,st8⟩:∃y9:Int,Hid (y9=dq (wrap64 (x4.tdiv 5)) 8)/\j4 w W wd9 Ba Bb B3 #[.int .i64 x0,.int .i64 x1,.int .i64 x2,.int .i64 x3,.int .i64 x4,.int .i64 x5,bv] #[.int .i64 (1+kd),.slice (some ⟨ga,0,none⟩) la.length la.length,.slice (some ⟨gt,0,none⟩) lt.length lt.length,.int .i64 (1+p5),.int .i64 y4,.int .i64 y5,.int .i64 y6,.int .i64 y7,.int .i64 y8,.int .i64 y9] la ga lt gt:=⟨_,by show _=_;rfl,st8⟩;clear st7 a0 a1 a2 a3 a4 a5 a6 zz ff;have z0:=aa (o:=0) st8.b3 rfl;have q0:=aa (o:=0) st8.bb rfl;have f0:=ae (o:=0) st8.bb;have z1:=aa (o:=1) st8.b3 rfl;have q1:=aa (o:=1) st8.bb rfl;have f1:=ae (o:=1) st8.bb;have z2:=aa (o:=2) st8.b3 rfl;have q2:=aa (o:=2) st8.bb rfl;have f2:=ae (o:=2) st8.bb;have z3:=aa (o:=3) st8.b3 rfl;have q3:=aa (o:=3) st8.bb rfl;have f3:=ae (o:=3) st8.bb;have z4:=aa (o:=4) st8.b3 rfl;have q4:=aa (o:=4) st8.bb rfl;have f4:=ae (o:=4) st8.bb;have z5:=aa (o:=5) st8.b3 rfl;have q5:=aa (o:=5) st8.bb rfl;have f5:=ae (o:=5) st8.bb;have z6:=aa (o:=6) st8.b3 rfl;have q6:=aa (o:=6) st8.bb rfl;have f6:=ae (o:=6) st8.bb;have z7:=aa (o:=7) st8.b3 rfl;have q7:=aa (o:=7) st8.bb rfl;have f7:=ae (o:=7) st8.bb;have z8:=aa (o:=8) st8.b3 rfl;have q8:=aa (o:=8) st8.bb rfl;have f8:=ae (o:=8) st8.bb;have z9:=aa (o:=9) st8.b3 rfl;have q9:=aa (o:=9) st8.bb rfl;have f9:=ae (o:=9) st8.bb;have hbn:=aa5 (x0:=(.int .i64 (1+kd))) (x1:=(.slice (some ⟨ga,0,none⟩) la.length la.length)) (x2:=(.slice (some ⟨gt,0,none⟩) lt.length lt.length)) (x3:=(.int .i64 (1+p5))) (x4:=(.int .i64 y4)) (x5:=(.int .i64 y5)) (x6:=(.int .i64 y6)) (x7:=(.int .i64 y7)) (x8:=(.int .i64 y8)) (x9:=(.int .i64 y9)) st8.bb;have hfn:=ak0 wd9 Bb (.int .i64 (1+kd)) (.slice (some ⟨ga,0,none⟩) la.length la.length) (.slice (some ⟨gt,0,none⟩) lt.length lt.length) (.int .i64 (1+p5)) (.int .i64 y4) (.int .i64 y5) (.int .i64 y6) (.int .i64 y7) (.int .i64 y8) (.int .i64 y9);obtain ⟨V9,h9⟩:∃V9,Hid (((((((((((wd9.setCell ⟨Bb,0,none⟩ (.int .i64 (1+kd))).setCell ⟨Bb,1,none⟩ (.slice (some ⟨ga,0,none⟩) la.length la.length)).setCell ⟨Bb,2,none⟩ (.slice (some ⟨gt,0,none⟩) lt.length lt.length)).setCell ⟨Bb,3,none⟩ (.int .i64 (1+p5))).setCell ⟨Bb,4,none⟩ (.int .i64 y4)).setCell ⟨Bb,5,none⟩ (.int .i64 y5)).setCell ⟨Bb,6,none⟩ (.int .i64 y6)).setCell ⟨Bb,7,none⟩ (.int .i64 y7)).setCell ⟨Bb,8,none⟩ (.int .i64 y8)).setCell ⟨Bb,9,none⟩ (.int .i64 y9))=V9):=⟨_,rfl⟩;rw [h9.out] at hbn hfn;go_wp2;rw [h9.out];have hgb:Bb<W.heap.size:=by omega
   have hga:=st8.mid.fa;have hgt:=st8.mid.ft;refine bodyPost_ret (v:=.agg (Cl.cells ⟨1+kd,la,lt,1+p5,y4,y5,y6,y7,y8,y9⟩ (.slice (some ⟨ga,0,none⟩) la.length la.length) (.slice (some ⟨gt,0,none⟩) lt.length lt.length))) (az5 hbn rfl) rfl ⟨_,_,_,rfl,?_⟩;exact ⟨st8.mid.ia.frk hfn (fun _ k hk e=>by have:=ka hk;omega),st8.mid.it.frk hfn (fun _ k hk e=>by have:=ka hk;omega),st8.mid.la2,st8.mid.lt2,fun _ _ _ e=>by cases e;exact Nat.le_refl _,fun _ _ _ e=>by cases e;exact Nat.le_refl _,fun k hk=>by have:=ka hk;omega,fun k hk=>by have:=ka hk;omega,by show 1+kd=1+dq x1 11;rw [Hkd.out],st8.fr.step hfn (fun k e=>.inr (by omega)),by show _=_;unfold bn1;rw [H4.out,H5.out,H6.out,H7.out,H8.out,H9.out,hEa.out,hEt.out,<- Hkd.out,<- Hp5.out]⟩
theorem fj.fr {w w':World}{v:Value}{l:List Bool}(h:fj w v l)(hf:Fr w w' (fun _=>False)):fj w' v l:=by
 obtain ⟨A,cap,e,h1,hA⟩:=h;refine ⟨A,cap,e,h1,fun h0=>?_⟩
 obtain ⟨g,o,e2,hc⟩:=hA h0;exact ⟨g,o,e2,fun i hi=>hf.cell (hc i hi) id⟩
theorem fj.lt {w:World}{v:Value}{l:List Bool}(h:fj w v l)(h0:0<l.length)(k:Nat)(hk:v.ownBlock=some k):k<w.heap.size:=by
 obtain ⟨A,cap,rfl,h1,hA⟩:=h;obtain ⟨g,o,rfl,hc⟩:=hA h0;have:g=k:=by simpa [Value.ownBlock] using hk
 subst this;exact World.block_lt_of_cell? _ _ (hc 0 h0)
def b46 (w0 W1 W:World)(kb:Nat)(R:RS)(x:j8)(w':World):Prop:=
 ∃th c,c.kind=1+dq x.kind 11/\KR w0 w' kb (ew R th c x.bits).2.2/\Fr W w' (fun k=>w0.heap.size<=k/\k<W1.heap.size)/\Hid (th=bb_ R x.thread/\c=bn1 x)
theorem b66 {w0 W1 W:World}{kb:Nat}{R:RS}(h:KR w0 W1 kb R)(hf:Fr W1 W (fun _=>False))(x:j8)(bv:Value)(hx:x.Ok)(hB:fj w0 bv x.bits):
 Calls Tryd.prog 30 #[.pointer (some ⟨kb,0,none⟩),x.val bv] W fun e w'=>∃y:Int,e=.returned (.int .i64 y)/\b46 w0 W1 W kb R x w':=by
 have hcall:=fun W=>au9 x bv W hx
 have hthr:=fun W2 (hf2:Fr W1 W2 (fun _=>False))=>am4 (h.next hf2) x.thread hx.thread
 unfold j8.val at hcall ⊢;have hf0:=(Fr.refl W (fun _=>False)).alloc (.cells #[.int .i64 x.thread,.int .i64 x.kind,.int .i64 x.a,.int .i64 x.b,.int .i64 x.c,.int .i64 x.d,bv] 42);have hb0:=heap_alloc_new W (.cells #[.int .i64 x.thread,.int .i64 x.kind,.int .i64 x.a,.int .i64 x.b,.int .i64 x.c,.int .i64 x.d,bv] 42);go_enter Tryd.func30,Tryd.ntmps30
 go_upto_region 1 with fail
 generalize W.alloc _=W2 at hf0 hb0 ⊢;obtain ⟨a0,a1,a2,a3,a4,a5,a6⟩:=dj hb0;have hBa:W1.heap.size<=W.heap.size:=hf.size;generalize W.heap.size=Ba at hBa hb0 a0 a1 a2 a3 a4 a5 a6 ⊢;have hF2:=hf.step hf0 (fun _=>False.elim);go_region_held3 (fun w'=>w'.cell? ⟨Ba,0,none⟩=some (.int .i64 x.thread)/\w'.cell? ⟨Ba,1,none⟩=some (.int .i64 x.kind)/\w'.cell? ⟨Ba,2,none⟩=some (.int .i64 x.a)/\w'.cell? ⟨Ba,3,none⟩=some (.int .i64 x.b)/\w'.cell? ⟨Ba,4,none⟩=some (.int .i64 x.c)/\w'.cell? ⟨Ba,5,none⟩=some (.int .i64 x.d)/\w'.cell? ⟨Ba,6,none⟩=some bv) (go_keep)
  (first
  |(go_at_call 19;refine (hthr _ hF2.drew).mono ?_;rintro e W3 ⟨th,rfl,hf3,HT⟩;have hF3:=hF2.drew.step hf3 (fun _=>False.elim);have hG3:=hf0.drew.step hf3 (fun _=>False.elim);have hb3:=hf3.same hb0 id;obtain ⟨b0,b1,b2,b3,b4,b5,b6⟩:=dj hb3)
  |(go_at_call 18;refine (hcall _).mono ?_;rintro e W4 ⟨c,av,tv,rfl,ho⟩;have hF4:=hF3.step ho.fr (fun _=>False.elim);have hG4:=hG3.step ho.fr (fun _=>False.elim);have hb4:=ho.fr.same hb3 id;obtain ⟨c0,c1,c2,c3,c4,c5,c6⟩:=dj hb4)
  |(go_at_call 12;refine (h.doB hF4 c th ho.at_ ho.ti (by have:=ho.al;omega) (by have:=ho.tl;omega) ho.ac ho.tc ((hB.fr h.base).fr hF4) (fun _ k hk=>.inr (Nat.le_trans hF3.size (ho.ba k hk))) (fun _ k hk=>.inr (Nat.le_trans hF3.size (ho.bt k hk))) (fun h0 k hk=>.inl (hB.lt h0 k hk))).mono ?_;rintro e W5 ⟨rfl,hK5,hf5⟩;have hb5:=hf5.same hb4 (fun e=>by have:=hF2.size;have:=(Array.getElem?_eq_some_iff.1 hb0).1;omega);obtain ⟨d0,d1,d2,d3,d4,d5,d6⟩:=dj hb5))
 all_goals (have hfin:=(hG4.mono (S2:=fun k=>w0.heap.size<=k/\k<W1.heap.size) (fun _=>False.elim)).step hf5 (fun k e=>.inl e))
 all_goals clear a0 a1 a2 a3 a4 a5 a6 b0 b1 b2 b3 b4 b5 b6 c0 c1 c2 c3 c4 c5 c6 d0 d1 d2 d3 d4 d5 d6 hcall hthr hb0 hb3 hb4 hb5
 all_goals go_wp2
 all_goals go_ret
 all_goals exact ⟨_,rfl,th,c,ho.kind,hK5,hfin,(by show _/\_;exact ⟨HT.out,ho.eq.out⟩)⟩
end Go.Proofs.YtdpjgflemddekaaDoor
